/-
  What is proved here: what the program's lengthBytes returns (how many bytes follow the first one of a length in shortest form), for every length; no condition.
-/
import Derived.Test.YtcapbojjceeapaaDoorRows
import Derived.Test.YtcapbojjceeapaaDoorWG1
import Derived.Test.YtcapbojjceeapaaDoorWLen64
import Derived.Deep.RegionWith
namespace Go.Proofs.YtcapbojjceeapaaDoor
open Go.RowKit
set_option maxRecDepth 8000
theorem bits_len (x : Int) (w : World) (h0 : 0 ≤ x) (h1 : x ≤ 18446744073709551615) :
    Calls Tryd.prog 89 #[.int .u64 x] w fun e w' => e = .returned (.int .i64 (Lib.bitLen x.toNat)) ∧ w' = w := by
  go_enter Tryd.func89, Tryd.ntmps89
  go_wp2_with (go_at_call 99; refine (bits_len64 x _ h0 h1).mono ?_; rintro e w' ⟨rfl, rfl⟩)
  go_ret
  exact ⟨rfl, rfl⟩
def lb (n : Nat) : Nat := if n ≤ 127 then 0 else (Lib.bitLen n + 7) / 8
theorem bitLen_256 {n : Nat} (h : n < 256) : Lib.bitLen n ≤ 8 := Lib.bitLen_le n 8 (by decide) h
theorem bitLen_128 : ∀ n : Fin 256, 0 < n.val → 1 ≤ Lib.bitLen n.val := by decide +kernel
theorem lb_0 {n : Nat} (h : n ≤ 127) : lb n = 0 := by unfold lb; rw [if_pos h]
theorem lb_1 {n : Nat} (h : 127 < n) (h2 : n < 256) : lb n = 1 := by
  unfold lb; rw [if_neg (by omega)]
  have h3 := bitLen_256 h2
  have h4 := bitLen_128 ⟨n, h2⟩ (by simp; omega)
  simp only at h4
  omega
theorem lb_2 {n : Nat} (h : 256 ≤ n) (h2 : n < 65536) : lb n = 2 := by
  unfold lb; rw [if_neg (by omega)]
  have h3 := Lib.bitLen_shift8 n h (by omega)
  have h4 := bitLen_256 (n := n / 256) (by omega)
  have h5 := bitLen_128 ⟨n / 256, by omega⟩ (by simp; omega)
  simp only at h5
  omega
theorem lb_le {n : Nat} (h : n < 9223372036854775808) : lb n ≤ 8 := by
  unfold lb
  split
  · omega
  · have := Lib.bitLen_le n 63 (by decide) h
    omega
theorem bitLenAux_fuel_le : ∀ (f x : Nat), Lib.bitLenAux f x ≤ f
  | 0, _ => by simp [Lib.bitLenAux]
  | f + 1, x => by
    have := bitLenAux_fuel_le f (x / 2)
    simp only [Lib.bitLenAux]
    split <;> omega
theorem lb_le8 (n : Nat) : lb n ≤ 8 := by
  unfold lb
  split
  · omega
  · have := bitLenAux_fuel_le 64 n
    have : Lib.bitLen n ≤ 64 := this
    omega
theorem lb_pos {n : Nat} (h : 127 < n) (h2 : n < 9223372036854775808) : 1 ≤ lb n := by
  unfold lb; rw [if_neg (by omega)]
  by_cases h3 : n < 256
  · have h4 := bitLen_128 ⟨n, h3⟩ (by simp; omega)
    simp only at h4
    omega
  · have h3 := Lib.bitLen_shift8 n (by omega) (by omega)
    omega
theorem length_bytes (n : Nat) (h : n < 9223372036854775808) (w : World) :
    Calls Tryd.prog 70 #[.int .i64 (n : Int)] w fun e w' => e = .returned (.int .i64 (lb n : Nat)) ∧ w' = w := by
  by_cases h1 : n ≤ 127
  · rw [lb_0 h1]
    have d : decide ((n : Int) ≤ 127) = true := by simp; omega
    clear h1
    go_enter Tryd.func70, Tryd.ntmps70
    go_wp2_with fail
    go_ret
    exact ⟨rfl, rfl⟩
  · have d : decide ((n : Int) ≤ 127) = false := by simp; omega
    have hb := Lib.bitLen_le n 63 (by decide) h
    have hc : ∀ u, Calls Tryd.prog 89 #[.int .u64 (n : Int)] u fun e w' => e = .returned (.int .i64 (Lib.bitLen n : Nat)) ∧ w' = u := fun u => by
      have := bits_len (n : Int) u (by omega) (by omega)
      simpa using this
    have HC := Lib.hid hc
    have e : (lb n : Int) = ((Lib.bitLen n : Int) + 7) / 8 := by
      unfold lb; rw [if_neg h1]; omega
    rw [e]
    clear hc e h1
    go_enter Tryd.func70, Tryd.ntmps70
    go_wp2_with (go_at_call 89; refine (HC.out _).mono ?_; rintro e w' ⟨rfl, rfl⟩)
    go_ret
    exact ⟨rfl, rfl⟩
set_option maxRecDepth 8000
def chk1 (t : Int) (lv lk : Nat) (d : Int) : Int :=
  if validB t = false then 4 else if (consB t = true ∧ 0 < lv) ∨ (consB t = false ∧ 0 < lk) then 1 else if 8 < d then 7 else 0
set_option maxHeartbeats 1000000 in
theorem check_object (b o : Nat) (t : Int) (lo : -9223372036854775808 ≤ t) (hi : t ≤ 9223372036854775807) (lv lk cv ck : Nat) (Av Ak : Option Addr) (d : Int) (w : World)
    (g0 : w.cell? ⟨b, o, none⟩ = some (.int .i64 t)) (g1 : w.cell? ⟨b, o + 1, none⟩ = some (.slice Av lv cv)) (g2 : w.cell? ⟨b, o + 2, none⟩ = some (.slice Ak lk ck)) :
    Calls Tryd.prog 67 #[.pointer (some ⟨b, o, none⟩), .int .i64 d] w fun e w' => e = .returned (.int .i64 (chk1 t lv lk d)) ∧ w' = w := by
  cases hv : validB t
  · have he : chk1 t lv lk d = 4 := by unfold chk1; rw [if_pos hv]
    have hw : ∀ u, Calls Tryd.prog 87 #[.int .i64 t] u fun e w' => e = .returned (.bool false) ∧ w' = u := fun u => by have := tlv_valid t lo hi u; rwa [hv] at this
    have HW := Lib.hid hw
    rw [he]
    clear hw he hv
    go_enter Tryd.func67, Tryd.ntmps67
    go_wp2_with (go_at_call 87; refine (HW.out _).mono ?_; rintro e w' ⟨rfl, rfl⟩)
    go_ret
    exact ⟨rfl, rfl⟩
  · have hw : ∀ u, Calls Tryd.prog 87 #[.int .i64 t] u fun e w' => e = .returned (.bool true) ∧ w' = u := fun u => by have := tlv_valid t lo hi u; rwa [hv] at this
    have HW := Lib.hid hw
    clear hw
    cases hc : consB t
    · have hk : ∀ u, Calls Tryd.prog 88 #[.int .i64 t] u fun e w' => e = .returned (.bool false) ∧ w' = u := fun u => by have := tlv_cons t lo hi u; rwa [hc] at this
      have HK := Lib.hid hk
      clear hk
      by_cases h1 : 0 < lk
      · have he : chk1 t lv lk d = 1 := by unfold chk1; rw [if_neg (by simp [hv]), if_pos (.inr ⟨hc, h1⟩)]
        have d1 : decide (0 < lk) = true := by simp; omega
        rw [he]
        clear he hv hc h1
        go_enter Tryd.func67, Tryd.ntmps67
        go_wp2_with (first | (go_at_call 87; refine (HW.out _).mono ?_; rintro e w' ⟨rfl, rfl⟩) | (go_at_call 88; refine (HK.out _).mono ?_; rintro e w' ⟨rfl, rfl⟩))
        go_ret
        exact ⟨rfl, rfl⟩
      · have d1 : decide (0 < lk) = false := by simp; omega
        by_cases h2 : 8 < d
        · have he : chk1 t lv lk d = 7 := by unfold chk1; rw [if_neg (by simp [hv]), if_neg (by simp [hc]; omega), if_pos h2]
          have d2 : decide (8 < d) = true := by simpa using h2
          rw [he]
          clear he hv hc h1 h2
          go_enter Tryd.func67, Tryd.ntmps67
          go_wp2_with (first | (go_at_call 87; refine (HW.out _).mono ?_; rintro e w' ⟨rfl, rfl⟩) | (go_at_call 88; refine (HK.out _).mono ?_; rintro e w' ⟨rfl, rfl⟩))
          go_ret
          exact ⟨rfl, rfl⟩
        · have he : chk1 t lv lk d = 0 := by unfold chk1; rw [if_neg (by simp [hv]), if_neg (by simp [hc]; omega), if_neg h2]
          have d2 : decide (8 < d) = false := by simpa using h2
          rw [he]
          clear he hv hc h1 h2
          go_enter Tryd.func67, Tryd.ntmps67
          go_wp2_with (first | (go_at_call 87; refine (HW.out _).mono ?_; rintro e w' ⟨rfl, rfl⟩) | (go_at_call 88; refine (HK.out _).mono ?_; rintro e w' ⟨rfl, rfl⟩))
          go_ret
          exact ⟨rfl, rfl⟩
    · have hk : ∀ u, Calls Tryd.prog 88 #[.int .i64 t] u fun e w' => e = .returned (.bool true) ∧ w' = u := fun u => by have := tlv_cons t lo hi u; rwa [hc] at this
      have HK := Lib.hid hk
      clear hk
      by_cases h1 : 0 < lv
      · have he : chk1 t lv lk d = 1 := by unfold chk1; rw [if_neg (by simp [hv]), if_pos (.inl ⟨hc, h1⟩)]
        have d1 : decide (0 < lv) = true := by simp; omega
        rw [he]
        clear he hv hc h1
        go_enter Tryd.func67, Tryd.ntmps67
        go_wp2_with (first | (go_at_call 87; refine (HW.out _).mono ?_; rintro e w' ⟨rfl, rfl⟩) | (go_at_call 88; refine (HK.out _).mono ?_; rintro e w' ⟨rfl, rfl⟩))
        go_ret
        exact ⟨rfl, rfl⟩
      · have d1 : decide (0 < lv) = false := by simp; omega
        by_cases h2 : 8 < d
        · have he : chk1 t lv lk d = 7 := by unfold chk1; rw [if_neg (by simp [hv]), if_neg (by simp [hc]; omega), if_pos h2]
          have d2 : decide (8 < d) = true := by simpa using h2
          rw [he]
          clear he hv hc h1 h2
          go_enter Tryd.func67, Tryd.ntmps67
          go_wp2_with (first | (go_at_call 87; refine (HW.out _).mono ?_; rintro e w' ⟨rfl, rfl⟩) | (go_at_call 88; refine (HK.out _).mono ?_; rintro e w' ⟨rfl, rfl⟩))
          go_ret
          exact ⟨rfl, rfl⟩
        · have he : chk1 t lv lk d = 0 := by unfold chk1; rw [if_neg (by simp [hv]), if_neg (by simp [hc]; omega), if_neg h2]
          have d2 : decide (8 < d) = false := by simpa using h2
          rw [he]
          clear he hv hc h1 h2
          go_enter Tryd.func67, Tryd.ntmps67
          go_wp2_with (first | (go_at_call 87; refine (HW.out _).mono ?_; rintro e w' ⟨rfl, rfl⟩) | (go_at_call 88; refine (HK.out _).mono ?_; rintro e w' ⟨rfl, rfl⟩))
          go_ret
          exact ⟨rfl, rfl⟩
def chkE : F → Int → Int
  | .nil, _ => 0
  | .cons t v k r, d => if chk1 t v.length k.len d ≠ 0 then chk1 t v.length k.len d else if chkE k (d + 1) ≠ 0 then chkE k (d + 1) else chkE r d
def F.under : F → Nat
  | .nil => 0
  | .cons _ _ k r => k.size + r.under
theorem F.size_eq : ∀ f : F, f.size = f.len + f.under
  | .nil => rfl
  | .cons _ _ k r => by have := r.size_eq; simp only [F.len, F.size, F.under]; omega
def F.ok : F → Prop
  | .nil => True
  | .cons t v k r => (-9223372036854775808 ≤ t ∧ t ≤ 9223372036854775807) ∧ v.length ≤ 140737488351232 ∧ k.ok ∧ r.ok
theorem chk1_le {t : Int} {lv lk : Nat} {d : Int} (h : chk1 t lv lk d = 0) : d ≤ 8 := by
  unfold chk1 at h
  split at h
  · omega
  · split at h
    · omega
    · split at h <;> omega
theorem chkE_1 {t : Int} {v : List UInt8} {k r : F} {d : Int} (h : chk1 t v.length k.len d ≠ 0) : chkE (.cons t v k r) d = chk1 t v.length k.len d := by simp only [chkE]; rw [if_pos h]
theorem chkE_2 {t : Int} {v : List UInt8} {k r : F} {d : Int} (h : chk1 t v.length k.len d = 0) (h2 : chkE k (d + 1) ≠ 0) : chkE (.cons t v k r) d = chkE k (d + 1) := by simp only [chkE]; rw [if_neg (by omega), if_pos h2]
theorem chkE_3 {t : Int} {v : List UInt8} {k r : F} {d : Int} (h : chk1 t v.length k.len d = 0) (h2 : chkE k (d + 1) = 0) : chkE (.cons t v k r) d = chkE r d := by simp only [chkE]; rw [if_neg (by omega), if_neg (by omega)]
def ChkIs (f : F) (d : Int) (w : World) (e : Ending) (w' : World) : Prop :=
  e = .returned (.tuple #[.int .i64 (if chkE f d = 0 then (f.size : Int) else 0), .int .i64 (chkE f d)]) ∧ w' = w
theorem chk_bad {f : F} {d x : Int} {w : World} (h : chkE f d = x) (hx : x ≠ 0) : ChkIs f d w (.returned (.tuple #[.int .i64 0, .int .i64 x])) w := by
  unfold ChkIs
  rw [h, if_neg hx]
  exact ⟨rfl, rfl⟩
theorem chk_good {f : F} {d : Int} {m : Nat} {w : World} (h : chkE f d = 0) (hm : m = f.size) : ChkIs f d w (.returned (.tuple #[.int .i64 (m : Int), .int .i64 0])) w := by
  unfold ChkIs
  rw [h, if_pos rfl, hm]
  exact ⟨rfl, rfl⟩
set_option maxHeartbeats 1000000 in
theorem tlv_check (n : Nat) : ∀ (f : F) (A : Option Addr) (c : Nat) (d : Int) (w : World) (p : Nat → Prop), f.size < n → n ≤ 1125899906842624 → f.ok → 0 ≤ d → d ≤ 9 → SeesF w p A f →
    Calls Tryd.prog 45 #[.slice A f.len c, .int .i64 d] w (ChkIs f d w) := by
  induction n with
  | zero => intro f A c d w p hn; omega
  | succ n ih =>
    intro f A c d w p hn hb hok d0 d9 hs
    obtain ⟨cs, s1, s2⟩ := hs
    have hlen := f.len_le_size
    have hsz := f.size_eq
    have HOK := Lib.hid hok
    have S2 := Lib.hid s2
    have IH := Lib.hid ih
    clear hok s2 ih
    go_enter Tryd.func45, Tryd.ntmps45
    go_wp2_with fail
    go_loopw [6, 15] (fun q i wr => ∃ (k m : Nat) (g : F), k + g.len = f.len ∧ i = .int .i64 k ∧ q = .int .i64 m ∧ m + g.under = f.size ∧ Hid (g.ok ∧ g.size ≤ f.size ∧ HoldsP w p g (cs.drop (3 * k)) ∧ chkE f d = chkE g d) ∧ wr = w) (fun _ i _ => f.len - (intOf i).toNat)
    case atStart => exact ⟨0, f.len, f, by omega, rfl, rfl, by omega, Lib.hid ⟨HOK.out, Nat.le_refl _, S2.out, rfl⟩, rfl⟩
    case round =>
      clear S2 HOK
      obtain ⟨k, m, g, hk, rfl, rfl, hm, HG, rfl⟩ := hrel
      cases g with
      | nil =>
        have hd := chk_good (w := wr) (HG.out.2.2.2.trans rfl) (show m = f.size from hm)
        have HD := Lib.hid hd
        have hk2 : k = f.len := hk
        clear hd hk hm HG s1
        go_wp2_with fail
        go_ret2
        exact HD.out
      | cons t v kk r =>
        have hk1 : k + r.len + 1 = f.len := hk
        have hm1 : m + (kk.size + r.under) = f.size := hm
        have hgs : kk.size + r.size + 1 ≤ f.size := HG.out.2.1
        have hlk := kk.len_le_size
        obtain ⟨lo, hi⟩ := HG.out.1.1
        obtain ⟨b, off, Av, cv, Ak, ck, rfl, hp, g0, g1, g2, sv, sk, hr, hnv⟩ := node_at s1 HG.out.2.2.1
        have HR := Lib.hid hr
        have HK := Lib.hid sk
        clear hk hm hr sk sv hp hnv
        obtain ⟨x, hx⟩ : ∃ x, x = chk1 t v.length kk.len d := ⟨_, rfl⟩
        have hc1 := check_object b (off + k * 3) t lo hi v.length kk.len cv ck Av Ak d wr g0 g1 g2
        rw [← hx] at hc1
        have HC := Lib.hid hc1
        clear hc1 g0 g1
        by_cases h1 : x = 0
        · have d8 : d ≤ 8 := chk1_le (hx.symm.trans h1)
          have hx0 := hx.symm.trans h1
          subst h1
          obtain ⟨y, hy⟩ : ∃ y, y = chkE kk (d + 1) := ⟨_, rfl⟩
          have hc2 := IH.out kk Ak ck (d + 1) wr p (by omega) (by omega) HG.out.1.2.2.1 (by omega) (by omega) HK.out
          unfold ChkIs at hc2
          rw [← hy] at hc2
          by_cases h2 : y = 0
          · subst h2
            rw [if_pos rfl] at hc2
            have HC2 := Lib.hid hc2
            have he : chkE f d = chkE r d := HG.out.2.2.2.trans (chkE_3 hx0 hy.symm)
            have HE := Lib.hid he
            have HOK := Lib.hid HG.out.1.2.2.2
            clear hc2 he HG hx hx0 hy s1 HK IH
            go_wp2_with (first | (go_at_call 67; refine HC.out.mono ?_; rintro e w' ⟨rfl, rfl⟩) | (go_at_call 45; refine HC2.out.mono ?_; rintro e w' ⟨rfl, rfl⟩))
            go_roundw
            case rel => exact ⟨k + 1, m + kk.size, r, by omega, by go_num, by go_num, by omega, Lib.hid ⟨HOK.out, by omega, HR.out, HE.out⟩, trivial⟩
            case measure => simp [intOf]; omega
          · rw [if_neg h2] at hc2
            have HC2 := Lib.hid hc2
            have hd := chk_bad (w := wr) (HG.out.2.2.2.trans ((chkE_2 hx0 (by rw [← hy]; exact h2)).trans hy.symm)) h2
            have HD := Lib.hid hd
            have d1 : (y != 0) = true := by simpa using h2
            clear hd hc2 HG hx hx0 hy s1 HK IH h2 HR
            go_wp2_with (first | (go_at_call 67; refine HC.out.mono ?_; rintro e w' ⟨rfl, rfl⟩) | (go_at_call 45; refine HC2.out.mono ?_; rintro e w' ⟨rfl, rfl⟩))
            go_ret2
            exact HD.out
        · have hd := chk_bad (w := wr) (HG.out.2.2.2.trans ((chkE_1 (by rw [← hx]; exact h1)).trans hx.symm)) h1
          have HD := Lib.hid hd
          have d1 : (x != 0) = true := by simpa using h1
          clear hd HG hx h1 s1 HK HR IH
          go_wp2_with (go_at_call 67; refine HC.out.mono ?_; rintro e w' ⟨rfl, rfl⟩)
          go_ret2
          exact HD.out
set_option maxRecDepth 8000
def tagN (t : Int) : Nat := if 255 < t then 2 else 1
def encN : F → Nat
  | .nil => 0
  | .cons t v k r => (tagN t + 1 + lb (v.length + encN k) + (v.length + encN k)) + encN r
def SizeC (w : World) (Ak : Option Addr) (lk ck m : Nat) : Prop := ∀ u, Below w.heap.size w u →
  Calls Tryd.prog 46 #[.slice Ak lk ck] u fun e w' => e = .returned (.int .i64 (m : Int)) ∧ Below u.heap.size u w'
theorem content_size (t : Int) (lv cv lk ck m : Nat) (Av Ak : Option Addr) (hm : (lv : Int) + m ≤ 9223372036854775807) (w : World) (HC : Hid (SizeC w Ak lk ck m)) :
    Calls Tryd.prog 68 #[.agg #[.int .i64 t, .slice Av lv cv, .slice Ak lk ck]] w fun e w' => e = .returned (.int .i64 ((lv : Int) + m)) ∧ Below w.heap.size w w' := by
  go_enter Tryd.func68, Tryd.ntmps68
  go_wp2_with fail
  go_region_with (go_at_call 46; refine (HC.out _ ?_).mono ?_; (repeat' (first | exact Below.refl _ _ | refine Below.drew ?_ | refine Below.alloc ?_ (Nat.le_refl _) _)); rintro e w' ⟨rfl, hb⟩; have gx := hb.cell (p := ⟨w.heap.size, 1, none⟩) (by simp); have hb2 : Below w.heap.size w w' := (((Below.refl _ _).alloc (Nat.le_refl _) _).drew).trans (hb.mono (by simp)); clear hb)
  all_goals
    clear gx
    go_wp2_with fail
    go_ret
    exact ⟨congrArg (fun z => Ending.returned (Value.int .i64 z)) (IntWalk.i64_in ((lv : Int) + m) ⟨by omega, hm⟩), hb2⟩
def SizeAll (n : Nat) : Prop := ∀ (f : F) (A : Option Addr) (c : Nat) (w : World), f.size < n → f.ok → encN f ≤ 4611686018427387903 → SeesF w (· < w.heap.size) A f →
    Calls Tryd.prog 46 #[.slice A f.len c] w fun e w' => e = .returned (.int .i64 (encN f : Int)) ∧ Below w.heap.size w w'
theorem SizeAll.c {n : Nat} (h : SizeAll n) {f : F} {A : Option Addr} {c : Nat} {w wr : World} (hn : f.size < n) (ho : f.ok) (hb : encN f ≤ 4611686018427387903) (hs : SeesF w (· < w.heap.size) A f) (hw : Below w.heap.size w wr) : SizeC wr A f.len c (encN f) := by
  intro u hu
  exact h f A c u hn ho hb (hs.on (below_on hw hu))
theorem content_nat (t : Int) (lv cv lk ck m c : Nat) (Av Ak : Option Addr) (hc : c = lv + m) (hm : c ≤ 9223372036854775807) (w : World) (HC : Hid (SizeC w Ak lk ck m)) :
    Calls Tryd.prog 68 #[.agg #[.int .i64 t, .slice Av lv cv, .slice Ak lk ck]] w fun e w' => e = .returned (.int .i64 (c : Int)) ∧ Below w.heap.size w w' := by
  have h := content_size t lv cv lk ck m Av Ak (by omega) w HC
  have e : (c : Int) = (lv : Int) + m := by omega
  rw [e]
  exact h
theorem tag_sizeN (t : Int) (a : Nat) (ha : a = tagN t) (u : World) : Calls Tryd.prog 69 #[.int .i64 t] u fun e w' => e = .returned (.int .i64 (a : Int)) ∧ w' = u := by
  have h := tag_size t u
  have e : (a : Int) = if 255 < t then 2 else 1 := by rw [ha]; unfold tagN; split <;> rfl
  rw [e]
  exact h
theorem tagN_le (t : Int) : tagN t ≤ 2 := by unfold tagN; split <;> omega
set_option maxHeartbeats 1000000 in
theorem tlv_size (n : Nat) (hb : n ≤ 1125899906842624) : SizeAll n := by
  induction n with
  | zero => intro f A c w hn; omega
  | succ n ih =>
    intro f A c w hn hok hbd hs
    obtain ⟨cs, s1, s2⟩ := hs
    have IH := Lib.hid (ih (by omega))
    have hlen := f.len_le_size
    have HOK := Lib.hid hok
    have S2 := Lib.hid s2
    clear hok s2 ih
    go_enter Tryd.func46, Tryd.ntmps46
    go_wp2_with fail
    go_loopw [3, 9] (fun q i wr => ∃ (k m : Nat) (g : F), k + g.len = f.len ∧ i = .int .i64 k ∧ q = .int .i64 m ∧ m + encN g = encN f ∧ Hid (g.ok ∧ g.size ≤ f.size ∧ HoldsP w (· < w.heap.size) g (cs.drop (3 * k))) ∧ Below w.heap.size w wr) (fun _ i _ => f.len - (intOf i).toNat)
    case atStart => exact ⟨0, 0, f, by omega, rfl, rfl, by omega, Lib.hid ⟨HOK.out, Nat.le_refl _, S2.out⟩, Below.refl _ _⟩
    case round =>
      clear S2 HOK
      obtain ⟨k, m, g, hk, rfl, rfl, hm, HG, hbw⟩ := hrel
      cases g with
      | nil =>
        have hm2 : m = encN f := hm
        have hk2 : k = f.len := hk
        clear hk hm HG s1
        subst hm2
        go_wp2_with fail
        go_ret
        exact ⟨rfl, hbw⟩
      | cons t v kk r =>
        have hk1 : k + r.len + 1 = f.len := hk
        have hgs : kk.size + r.size + 1 ≤ f.size := HG.out.2.1
        obtain ⟨lo, hi⟩ := HG.out.1.1
        obtain ⟨a, ha⟩ : ∃ a, a = tagN t := ⟨_, rfl⟩
        obtain ⟨x, hx⟩ : ∃ x, x = v.length + encN kk := ⟨_, rfl⟩
        obtain ⟨y, hy⟩ : ∃ y, y = lb x := ⟨_, rfl⟩
        have hm1 : m + ((a + 1 + y + x) + encN r) = encN f := by rw [ha, hy, hx]; exact hm
        have hx2 : x ≤ 4611686018427387903 := by omega
        have hy2 : y ≤ 8 := by rw [hy]; exact lb_le (by omega)
        have ha2 : a ≤ 2 := by rw [ha]; exact tagN_le t
        obtain ⟨b, off, Av, cv, Ak, ck, rfl, hp, g0, g1, g2, sv, sk, hr, hnv⟩ := node_at s1 HG.out.2.2
        have HR := Lib.hid hr
        have g0 := (hbw.cell (p := ⟨b, off + k * 3, none⟩) hp).trans g0
        have g1 := (hbw.cell (p := ⟨b, off + k * 3 + 1, none⟩) hp).trans g1
        have g2 := (hbw.cell (p := ⟨b, off + k * 3 + 2, none⟩) hp).trans g2
        have HOK := Lib.hid HG.out.1.2.2.2
        have hT : ∀ u, Calls Tryd.prog 69 #[.int .i64 t] u fun e w' => e = .returned (.int .i64 (a : Int)) ∧ w' = u := fun u => tag_sizeN t a ha u
        have HT := Lib.hid hT
        have hL : ∀ u, Calls Tryd.prog 70 #[.int .i64 (x : Int)] u fun e w' => e = .returned (.int .i64 (y : Int)) ∧ w' = u := fun u => by rw [hy]; exact length_bytes x (by omega) u
        have HL := Lib.hid hL
        have hC : ∀ u, Below w.heap.size w u → Calls Tryd.prog 68 #[.agg #[.int .i64 t, .slice Av v.length cv, .slice Ak kk.len ck]] u fun e w' => e = .returned (.int .i64 (x : Int)) ∧ Below u.heap.size u w' :=
          fun u hu => content_nat t v.length cv kk.len ck (encN kk) x Av Ak hx (by omega) u (Lib.hid (IH.out.c (by omega) HG.out.1.2.2.1 (by omega) sk hu))
        have HC := Lib.hid hC
        clear hk hm hT hL hC hr sk sv hp hnv HG s1 ha hx hy IH
        have hbw2 := hbw.alloc hbw.size (Obj.cells #[.int .i64 t, .slice Av v.length cv, .slice Ak kk.len ck] 54)
        go_wp2_with fail
        refine (HC.out _ hbw2).mono ?_
        rintro e w2 ⟨rfl, hb3⟩
        have gx := hb3.cell (p := ⟨wr.heap.size, 0, none⟩) (by simp)
        have hbw := hbw2.trans (hb3.mono hbw2.size)
        clear HC hb3 hbw2 g0 g1 g2
        go_wp2_with (first | (go_at_call 69; refine (HT.out _).mono ?_; rintro e w' ⟨rfl, rfl⟩) | (go_at_call 70; refine (HL.out _).mono ?_; rintro e w' ⟨rfl, rfl⟩))
        go_roundw
        case rel => exact ⟨k + 1, m + (a + 1 + y + x), r, by omega, by go_num, by go_num, by omega, Lib.hid ⟨HOK.out, by omega, HR.out⟩, hbw⟩
        case measure => simp [intOf]; omega
theorem info_u8b : (Tryd.prog.info? 5).map (fun i => (i.zero, i.size, i.bytes)) = some (some (.int .u8 0), 1, 1) := by kernel_rfl
def Out (w : World) (B g k cap : Nat) (l : List UInt8) : Prop := w.ownsRow B 5 1 (.slice (some ⟨g, 0, none⟩) k cap) k (Us l)
def Puts (w : World) (B g k cap : Nat) (l : List UInt8) (e : Ending) (w' : World) : Prop :=
  e = .returned (.slice (some ⟨g, 0, none⟩) k cap) ∧ Out w' B g k cap l ∧ w.grownBy w' (some g)
theorem one_cell1 (z : Int) : ∀ u ∈ [Value.int .u8 z], u.oneCell' = true := by
  intro u hu
  simp only [List.mem_singleton] at hu
  subst hu
  rfl
theorem Out.byte {w : World} {B g k cap : Nat} {l : List UInt8} {z : Int} (b : UInt8) (hz : z = (b.toNat : Int)) (h : w.ownsRow B 5 1 (.slice (some ⟨g, 0, none⟩) k cap) k (Us l ++ [Value.int .u8 z])) : Out w B g k cap (l ++ [b]) := by
  unfold Out
  rw [Us_append]
  have : Us [b] = [Value.int .u8 z] := by rw [hz]; rfl
  rw [this]
  exact h
theorem grown_trans {a b c : World} {g : Nat} (h : a.grownBy b (some g)) (k : b.grownBy c (some g)) : a.grownBy c (some g) := by
  obtain ⟨h1, h2, h3, h4, h5⟩ := h
  obtain ⟨k1, k2, k3, k4, k5⟩ := k
  exact ⟨k1.trans h1, k2.trans h2, k3.trans h3, Nat.le_trans h4 k4, fun i hi hn => (k5 i (Nat.lt_of_lt_of_le hi h4) hn).trans (h5 i hi hn)⟩
theorem grown_below {a b : World} {row : Option Nat} (h : Below a.heap.size a b) : a.grownBy b row :=
  ⟨h.os, h.tape, h.output, h.size, fun i hi _ => h.block i hi⟩
theorem grown_alloc (a : World) (o : Obj) (row : Option Nat) : a.grownBy (a.alloc o) row := grown_below ((Below.refl _ _).alloc (Nat.le_refl _) o)
def tagL (t : Nat) : List UInt8 := if 255 < t then [UInt8.ofNat (t / 256), UInt8.ofNat t] else [UInt8.ofNat t]
theorem tagL_length (t : Nat) : (tagL t).length = tagN t := by
  unfold tagL tagN
  by_cases h : 255 < t
  · rw [if_pos h, if_pos (by omega)]; rfl
  · rw [if_neg h, if_neg (by omega)]; rfl
theorem byte_lo (t : Nat) : (t : Int) % 256 = ((UInt8.ofNat t).toNat : Int) := by rw [UInt8.toNat_ofNat']; omega
theorem byte_hi {t : Nat} (h : t ≤ 65535) : (t : Int) / 256 = ((UInt8.ofNat (t / 256)).toNat : Int) := by rw [UInt8.toNat_ofNat']; omega
theorem byte_in {t : Nat} (h : t ≤ 255) : (t : Int) = ((UInt8.ofNat t).toNat : Int) := by rw [UInt8.toNat_ofNat']; omega
theorem byte_sh (n m : Nat) : (n : Int) / 2 ^ (8 * m) % 256 = ((UInt8.ofNat (n / 256 ^ m)).toNat : Int) := by
  have e : ((n : Int) / 2 ^ (8 * m)) = ((n / 256 ^ m : Nat) : Int) := by
    rw [show (256 : Nat) = 2 ^ 8 from rfl, ← Nat.pow_mul]; simp
  rw [e]; exact byte_lo _
theorem app_two (l : List UInt8) (a b : UInt8) : l ++ [a] ++ [b] = l ++ [a, b] := by simp
set_option maxHeartbeats 400000 in
theorem app_tag (t B g k cap : Nat) (l : List UInt8) (ht : t ≤ 65535) (hc : k + tagN t ≤ cap) (w : World) (hown : Out w B g k cap l) :
    Calls Tryd.prog 71 #[.slice (some ⟨g, 0, none⟩) k cap, .int .i64 (t : Int)] w (Puts w B g (k + tagN t) cap (l ++ tagL t)) := by
  obtain ⟨i0, hi, hz0, hz1, hz2⟩ := info_parts info_u8b
  by_cases h : 255 < t
  · have e1 : tagN t = 2 := by unfold tagN; rw [if_pos (by omega)]
    have e2 : tagL t = [UInt8.ofNat (t / 256), UInt8.ofNat t] := by unfold tagL; rw [if_pos h]
    have hT : ∀ u, Calls Tryd.prog 69 #[.int .i64 (t : Int)] u fun e w' => e = .returned (.int .i64 2) ∧ w' = u := fun u => by have := tag_size t u; rwa [if_pos (by omega)] at this
    have HT := Lib.hid hT
    rw [e1, e2]
    rw [e1] at hc
    clear hT e1 e2 h
    unfold Out at hown
    go_enter Tryd.func71, Tryd.ntmps71
    go_wp2_with (first | (go_at_call 69; refine (HT.out _).mono ?_; rintro e w' ⟨rfl, rfl⟩) | (at_builtin; refine wpList_append_fits _ rfl (.tmp 8) (.tmp 12) 23 rfl B 5 i0 1 Tryd.underlying23 hi hz1 g k cap _ rfl (hown.alloc _) ⟨w'.heap.size, 0, none⟩ 1 1 [_] rfl rfl (news_of_one _ _ _) (one_cell1 _) (by omega) ?_; intro w1 hown1 hg1; have hg1 := grown_trans (grown_alloc w' _ (some g)) hg1; have hown1 := Out.byte _ (byte_hi ht) hown1; unfold Out at hown1; clear hown) | (at_builtin; refine wpList_append_fits _ rfl (.tmp 14) (.tmp 17) 23 rfl B 5 i0 1 Tryd.underlying23 hi hz1 g (k + 1) cap _ rfl (hown1.alloc _) ⟨w1.heap.size, 0, none⟩ 1 1 [_] rfl rfl (news_of_one _ _ _) (one_cell1 _) (by omega) ?_; intro w2 hown2 hg2; have hg2 := grown_trans (grown_trans hg1 (grown_alloc w1 _ (some g))) hg2; have hown2 := Out.byte _ (byte_lo t) hown2; rw [app_two] at hown2; clear hown1 hg1; have HO := Lib.hid hown2; have HG := Lib.hid hg2; clear hown2 hg2))
    go_ret
    exact ⟨rfl, HO.out, HG.out⟩
  · have e1 : tagN t = 1 := by unfold tagN; rw [if_neg (by omega)]
    have e2 : tagL t = [UInt8.ofNat t] := by unfold tagL; rw [if_neg h]
    have ht1 : t ≤ 255 := by omega
    have hT : ∀ u, Calls Tryd.prog 69 #[.int .i64 (t : Int)] u fun e w' => e = .returned (.int .i64 1) ∧ w' = u := fun u => by have := tag_size t u; rwa [if_neg (by omega)] at this
    have HT := Lib.hid hT
    rw [e1, e2]
    rw [e1] at hc
    clear hT e1 e2 h
    unfold Out at hown
    go_enter Tryd.func71, Tryd.ntmps71
    go_wp2_with (first | (go_at_call 69; refine (HT.out _).mono ?_; rintro e w' ⟨rfl, rfl⟩) | (at_builtin; refine wpList_append_fits _ rfl (.tmp 14) (.tmp 17) 23 rfl B 5 i0 1 Tryd.underlying23 hi hz1 g k cap _ rfl (hown.alloc _) ⟨w'.heap.size, 0, none⟩ 1 1 [_] rfl rfl (news_of_one _ _ _) (one_cell1 _) (by omega) ?_; intro w1 hown1 hg1; have hg1 := grown_trans (grown_alloc w' _ (some g)) hg1; have hown1 := Out.byte _ (byte_in ht1) hown1; clear hown))
    have HO := Lib.hid hown1
    have HG := Lib.hid hg1
    clear hown1 hg1
    go_wp2_with fail
    go_ret
    exact ⟨rfl, HO.out, HG.out⟩
def lenD (n s k : Nat) : List UInt8 := (List.range k).map fun i => UInt8.ofNat (n / 256 ^ (s - 1 - i))
def lenL (n : Nat) : List UInt8 := if n ≤ 127 then [UInt8.ofNat n] else UInt8.ofNat (128 + lb n) :: lenD n (lb n) (lb n)
theorem lenD_length (n s k : Nat) : (lenD n s k).length = k := by simp [lenD]
theorem lenD_snoc (n s k : Nat) : lenD n s (k + 1) = lenD n s k ++ [UInt8.ofNat (n / 256 ^ (s - 1 - k))] := by simp [lenD, List.range_succ]
theorem lenL_length (n : Nat) : (lenL n).length = 1 + lb n := by
  unfold lenL
  split
  · rename_i h; rw [lb_0 h]; rfl
  · simp [lenD_length]; omega
set_option maxHeartbeats 400000 in
set_option maxRecDepth 8000 in
theorem app_length (n B g k cap : Nat) (l : List UInt8) (ht : n ≤ 65535) (hc : k + (1 + lb n) ≤ cap) (w : World) (hown : Out w B g k cap l) :
    Calls Tryd.prog 72 #[.slice (some ⟨g, 0, none⟩) k cap, .int .i64 (n : Int)] w (Puts w B g (k + (1 + lb n)) cap (l ++ lenL n)) := by
  obtain ⟨i0, hi, hz0, hz1, hz2⟩ := info_parts info_u8b
  obtain ⟨s, hs⟩ : ∃ s, s = lb n := ⟨_, rfl⟩
  have hL : ∀ u, Calls Tryd.prog 70 #[.int .i64 (n : Int)] u fun e w' => e = .returned (.int .i64 (s : Int)) ∧ w' = u := fun u => by rw [hs]; exact length_bytes n (by omega) u
  have HL := Lib.hid hL
  clear hL
  rw [← hs] at hc ⊢
  unfold Out at hown
  by_cases h : n ≤ 127
  · have e1 : s = 0 := by rw [hs, lb_0 h]
    have e2 : lenL n = [UInt8.ofNat n] := by unfold lenL; rw [if_pos h]
    subst e1
    rw [e2]
    have ht1 : n ≤ 255 := by omega
    clear hs e2 h
    go_enter Tryd.func72, Tryd.ntmps72
    go_wp2_with (first | (go_at_call 70; refine (HL.out _).mono ?_; rintro e w' ⟨rfl, rfl⟩) | (at_builtin; refine wpList_append_fits _ rfl (.tmp 11) (.tmp 14) 23 rfl B 5 i0 1 Tryd.underlying23 hi hz1 g k cap _ rfl (hown.alloc _) ⟨w'.heap.size, 0, none⟩ 1 1 [_] rfl rfl (news_of_one _ _ _) (one_cell1 _) (by omega) ?_; intro w1 hown1 hg1; have hg1 := grown_trans (grown_alloc w' _ (some g)) hg1; have hown1 := Out.byte _ (byte_in ht1) hown1; clear hown; have HO := Lib.hid hown1; have HG := Lib.hid hg1; clear hown1 hg1))
    go_ret
    exact ⟨rfl, HO.out, HG.out⟩
  · have hs1 : 1 ≤ s := by rw [hs]; exact lb_pos (by omega) (by omega)
    have hs2 : s ≤ 2 := by
      rw [hs]
      by_cases h2 : n < 256
      · rw [lb_1 (by omega) h2]; omega
      · rw [lb_2 (by omega) (by omega)]; omega
    have e2 : lenL n = UInt8.ofNat (128 + s) :: lenD n s s := by unfold lenL; rw [if_neg h, ← hs]
    have hz : ((128 : Int) + s) = ((UInt8.ofNat (128 + s)).toNat : Int) := by rw [UInt8.toNat_ofNat']; omega
    rw [e2]
    have d0 : (s == 0) = false := by simp; omega
    clear hs e2 h
    have HZ := Lib.hid hz
    clear hz
    go_enter Tryd.func72, Tryd.ntmps72
    go_wp2_with (first | (go_at_call 70; refine (HL.out _).mono ?_; rintro e w' ⟨rfl, rfl⟩) | (at_builtin; refine wpList_append_fits _ rfl (.tmp 16) (.tmp 20) 23 rfl B 5 i0 1 Tryd.underlying23 hi hz1 g k cap _ rfl (hown.alloc _) ⟨w'.heap.size, 0, none⟩ 1 1 [_] rfl rfl (news_of_one _ _ _) (one_cell1 _) (by omega) ?_; intro w1 hown1 hg1; have hg1 := grown_trans (grown_alloc w' _ (some g)) hg1; have hown1 := Out.byte _ HZ.out hown1; clear hown; have HO := Lib.hid hown1; have HG := Lib.hid hg1; clear hown1 hg1))
    go_loopw [0, 23] (fun q i wr => ∃ j : Nat, j ≤ s ∧ i = .int .i64 j ∧ q = .slice (some ⟨g, 0, none⟩) (k + 1 + j) cap ∧ Out wr B g (k + 1 + j) cap (l ++ [UInt8.ofNat (128 + s)] ++ lenD n s j) ∧ w'.grownBy wr (some g)) (fun _ i _ => s - (intOf i).toNat)
    case atStart => exact ⟨0, Nat.zero_le _, rfl, rfl, by simpa [lenD] using HO.out, HG.out⟩
    case round =>
      clear HO HG
      obtain ⟨j, hj, rfl, rfl, hown, hg⟩ := hrel
      unfold Out at hown
      by_cases hlt : j < s
      · go_wp2_with (at_builtin; refine wpList_append_fits _ rfl (.tmp 26) (.tmp 35) 23 rfl B 5 i0 1 Tryd.underlying23 hi hz1 g (k + 1 + j) cap _ rfl (hown.alloc _) ⟨wr.heap.size, 0, none⟩ 1 1 [_] rfl rfl (news_of_one _ _ _) (one_cell1 _) (by omega) ?_; intro w2 hown2 hg2; have hg2 := grown_trans (grown_trans hg (grown_alloc wr _ (some g))) hg2; have hown2 := Out.byte _ (byte_sh n (s - 1 - j)) hown2; rw [List.append_assoc, ← lenD_snoc] at hown2; have HO := Lib.hid hown2; have HG := Lib.hid hg2; clear hown2 hg2 hown hg)
        go_roundw
        case rel => exact ⟨j + 1, by omega, by go_num, rfl, HO.out, HG.out⟩
        case measure => simp [intOf]; omega
      · obtain rfl : j = s := by omega
        have HO := Lib.hid hown
        have HG := Lib.hid hg
        clear hown hg
        go_wp2_with fail
        go_ret
        refine ⟨by rw [show k + (1 + j) = k + 1 + j by omega]; rfl, ?_, HG.out⟩
        have h := HO.out
        rw [List.append_assoc, List.singleton_append, show k + 1 + j = k + (1 + j) by omega] at h
        exact h
set_option maxRecDepth 8000
def enc : F → List UInt8
  | .nil => []
  | .cons t v k r => tagL t.toNat ++ lenL (v.length + encN k) ++ v ++ enc k ++ enc r
theorem tagN_nat (t : Int) : tagN (t.toNat : Int) = tagN t := by
  unfold tagN
  by_cases h : 255 < t
  · rw [if_pos h, if_pos (by omega)]
  · rw [if_neg h, if_neg (by omega)]
theorem enc_length : ∀ f : F, (enc f).length = encN f
  | .nil => rfl
  | .cons t v k r => by
    simp only [enc, encN, List.length_append, enc_length k, enc_length r, lenL_length, tagL_length, tagN_nat]
    omega
def F.tags : F → Prop
  | .nil => True
  | .cons t _ k r => (0 < t ∧ t ≤ 65535) ∧ k.tags ∧ r.tags
theorem Out.ge {w : World} {B g k cap : Nat} {l : List UInt8} (h : Out w B g k cap l) : B ≤ g ∧ g < w.heap.size := by
  rcases h.2 with ⟨h1, _⟩ | ⟨g', cap', cur, h1, h2, h3, _⟩
  · cases h1
  · injection h1 with h1 _ _
    injection h1 with h1
    injection h1 with h1
    subst h1
    refine ⟨h2, ?_⟩
    rcases Nat.lt_or_ge g w.heap.size with h | h
    · exact h
    · rw [Array.getElem?_eq_none h] at h3; cases h3
theorem grown_cell {a b : World} {g : Nat} (h : a.grownBy b (some g)) {p : Addr} (h1 : p.block < a.heap.size) (h2 : p.block ≠ g) : b.cell? p = a.cell? p :=
  by
  obtain ⟨_, _, _, _, h5⟩ := h
  exact World.cell?_of_block (w := a) (h5 p.block h1 (by simpa using fun e => h2 e))
def St (w0 : World) (B g k cap : Nat) (l : List UInt8) (N : Nat) (a b c : Value) (w : World) : Prop :=
  Out w B g k cap l ∧ w0.grownBy w (some g) ∧ (N ≠ g ∧ N < w.heap.size) ∧ w.cell? ⟨N, 0, none⟩ = some a ∧ w.cell? ⟨N, 1, none⟩ = some b ∧ w.cell? ⟨N, 2, none⟩ = some c
section
variable {w0 w w' : World} {B g k k' cap N : Nat} {l l' : List UInt8} {a b c : Value}
theorem St.new (ho : Out w B g k cap l) (hg : w0.grownBy w (some g)) (t : TypeId) : St w0 B g k cap l w.heap.size a b c (w.alloc (.cells #[a, b, c] t)) := by
  have hn := World.news_of_block (w := w.alloc (.cells #[a, b, c] t)) (heap_alloc_new w (.cells #[a, b, c] t))
  have := ho.ge
  refine ⟨ho.alloc _, grown_trans hg (grown_alloc w _ (some g)), ⟨by omega, by simp⟩, ?_, ?_, ?_⟩
  · exact hn 0 a (by simp)
  · exact hn 1 b (by simp)
  · exact hn 2 c (by simp)
theorem St.puts (h : St w0 B g k cap l N a b c w) (ho : Out w' B g k' cap l') (hg : w.grownBy w' (some g)) : St w0 B g k' cap l' N a b c w' := by
  obtain ⟨h1, h2, h3, h4, h5, h6⟩ := h
  exact ⟨ho, grown_trans h2 hg, ⟨h3.1, Nat.lt_of_lt_of_le h3.2 hg.size⟩, (grown_cell hg (p := ⟨N, 0, none⟩) h3.2 h3.1).trans h4, (grown_cell hg (p := ⟨N, 1, none⟩) h3.2 h3.1).trans h5, (grown_cell hg (p := ⟨N, 2, none⟩) h3.2 h3.1).trans h6⟩
theorem St.below (h : St w0 B g k cap l N a b c w) (hb : Below w.heap.size w w') : St w0 B g k cap l N a b c w' :=
  h.puts (own_new h.1 (grown_below hb)) (grown_below hb)
theorem grown_sees {A : Option Addr} {f : F} (hg : w0.grownBy w (some g)) (hs : SeesF w0 (· < B) A f) (hB : B ≤ w0.heap.size) (hBg : B ≤ g) : SeesF w (· < B) A f :=
  hs.keep fun _ hq => grown_cell hg (Nat.lt_of_lt_of_le hq hB) (Nat.ne_of_lt (Nat.lt_of_lt_of_le hq hBg))
theorem grown_seesP {A : Option Addr} {cs : List Value} (hg : w0.grownBy w (some g)) (hs : SeesP w0 (· < B) A cs) (hB : B ≤ w0.heap.size) (hBg : B ≤ g) : SeesP w (· < B) A cs :=
  hs.keep fun _ hq => grown_cell hg (Nat.lt_of_lt_of_le hq hB) (Nat.ne_of_lt (Nat.lt_of_lt_of_le hq hBg))
end
theorem apl_none {w : World} {p : Nat → Prop} {Av : Option Addr} {cv : Nat} {v : List UInt8} (h : Av = none → cv = 0) (hs : SeesP w p Av (Us v)) : Av = none → v.length = 0 ∧ cv = 0 := by
  intro e
  subst e
  have := hs.none_nil
  exact ⟨by simpa [Us] using this, h rfl⟩
def AplAll (n : Nat) : Prop := ∀ (f : F) (A : Option Addr) (c B g k cap : Nat) (l : List UInt8) (w : World), f.size < n → f.ok → f.tags → encN f ≤ 4096 → SeesF w (· < B) A f → B ≤ w.heap.size → Out w B g k cap l → k + encN f ≤ cap →
    Calls Tryd.prog 47 #[.slice (some ⟨g, 0, none⟩) k cap, .slice A f.len c] w (Puts w B g (k + encN f) cap (l ++ enc f))
set_option maxHeartbeats 1000000 in
theorem app_list (n : Nat) (hb : n ≤ 1125899906842624) : AplAll n := by
  induction n with
  | zero => intro f A c B g k cap l w hn; omega
  | succ n ih =>
    intro f A c B g k cap l w hn hok htg hbd hs hB hown hcap
    obtain ⟨i0, hi, hz0, hz1, hz2⟩ := info_parts info_u8b
    obtain ⟨cs, s1, s2⟩ := hs
    have IH := Lib.hid (ih (by omega))
    have hSZ := tlv_size n (by omega)
    have HSZ := Lib.hid hSZ
    have hlen := f.len_le_size
    have hBg := hown.ge.1
    have HOK := Lib.hid (show f.ok ∧ f.tags from ⟨hok, htg⟩)
    have S2 := Lib.hid s2
    have HO := Lib.hid hown
    clear hok htg s2 ih hSZ hown
    go_enter Tryd.func47, Tryd.ntmps47
    go_wp2_with fail
    go_loopw [0, 9] (fun q i wr => ∃ (j m : Nat) (rest : F) (d : List UInt8), j + rest.len = f.len ∧ i = .int .i64 j ∧ q = .slice (some ⟨g, 0, none⟩) (k + m) cap ∧ m + encN rest = encN f ∧
      Hid (rest.ok ∧ rest.tags ∧ rest.size ≤ f.size ∧ HoldsP w (· < B) rest (cs.drop (3 * j)) ∧ d ++ enc rest = l ++ enc f ∧ Out wr B g (k + m) cap d ∧ w.grownBy wr (some g))) (fun _ i _ => f.len - (intOf i).toNat)
    case atStart => exact ⟨0, 0, f, l, by omega, rfl, rfl, by omega, Lib.hid ⟨HOK.out.1, HOK.out.2, Nat.le_refl _, S2.out, rfl, HO.out, World.grownBy.refl _ _⟩⟩
    case round =>
      clear S2 HOK HO
      obtain ⟨j, m, rest, d, hj, rfl, rfl, hm, HG⟩ := hrel
      cases rest with
      | nil =>
        have hm2 : m = encN f := hm
        have hk2 : j = f.len := hj
        have hp : Puts w B g (k + m) cap (l ++ enc f) (.returned (.slice (some ⟨g, 0, none⟩) (k + m) cap)) wr := by
          obtain ⟨_, _, _, _, e, ho, hg⟩ := HG.out
          have e2 : d = l ++ enc f := by simpa [enc] using e
          rw [e2] at ho
          exact ⟨rfl, ho, hg⟩
        have HP := Lib.hid hp
        clear hj hm HG s1 hp
        subst hm2
        go_wp2_with fail
        go_ret
        exact HP.out
      | cons t v kk r =>
        obtain ⟨⟨⟨lo, hi2⟩, hvl, hko, hro⟩, ⟨⟨t0, t1⟩, htk, htr⟩, hgs, hh, hd, ho, hg⟩ := HG.out
        obtain ⟨T, rfl⟩ := Int.eq_ofNat_of_zero_le (show 0 ≤ t by omega)
        have hj1 : j + r.len + 1 = f.len := hj
        have hgs : kk.size + r.size + 1 ≤ f.size := hgs
        obtain ⟨a, ha⟩ : ∃ a, a = tagN T := ⟨_, rfl⟩
        obtain ⟨x, hx⟩ : ∃ x, x = v.length + encN kk := ⟨_, rfl⟩
        have hm1 : m + ((a + 1 + lb x + x) + encN r) = encN f := by rw [ha, hx]; exact hm
        have hd1 : d ++ (tagL T ++ lenL x ++ v ++ enc kk ++ enc r) = l ++ enc f := by rw [← hd, hx]; simp only [enc, Int.toNat_natCast]
        have ha2 : a ≤ 2 := by rw [ha]; exact tagN_le T
        obtain ⟨b, off, Av, cv, Ak, ck, rfl, hp, g0, g1, g2, sv, sk, hr, hnv⟩ := node_at s1 hh
        have hp' : b < w.heap.size := Nat.lt_of_lt_of_le hp hB
        have hpg : b ≠ g := Nat.ne_of_lt (Nat.lt_of_lt_of_le hp hBg)
        have g0 := (grown_cell hg (p := ⟨b, off + j * 3, none⟩) hp' hpg).trans g0
        have g1 := (grown_cell hg (p := ⟨b, off + j * 3 + 1, none⟩) hp' hpg).trans g1
        have g2 := (grown_cell hg (p := ⟨b, off + j * 3 + 2, none⟩) hp' hpg).trans g2
        have st := St.new (a := .int .i64 (T : Int)) (b := .slice Av v.length cv) (c := .slice Ak kk.len ck) ho hg 54
        obtain ⟨N, hN⟩ : ∃ N, N = wr.heap.size := ⟨_, rfl⟩
        have ST := Lib.hid st
        have HR := Lib.hid (show r.ok ∧ r.tags ∧ HoldsP w (· < B) r (cs.drop (3 * (j + 1))) ∧ kk.ok ∧ kk.tags ∧ SeesP w (· < B) Av (Us v) ∧ SeesF w (· < B) Ak kk ∧ d ++ (tagL T ++ lenL x ++ v ++ enc kk ++ enc r) = l ++ enc f ∧ (Av = none → cv = 0) from ⟨hro, htr, hr, hko, htk, sv, sk, hd1, hnv⟩)
        have HX := Lib.hid hx
        have HA := Lib.hid ha
        clear ha hx
        clear hj hm HG s1 hro htr hr hko htk sv sk hd hd1 st ho hg hh hnv hp hp' hpg
        go_wp2_with fail
        rw [← hN] at ST ⊢
        clear hN g0 g1 g2
        refine (app_tag T B g (k + m) cap d (by omega) (by have := HA.out; omega) _ ST.out.1).mono ?_
        rintro e w1 ⟨rfl, ho, hg⟩
        have ST := Lib.hid (ST.out.puts ho hg)
        obtain ⟨_, _, _, c0, c1, c2⟩ := ST.out
        rw [← HA.out] at ST ⊢
        clear ho hg
        go_wp2_with fail
        refine (content_nat T v.length cv kk.len ck (encN kk) x Av Ak HX.out (by have := HX.out; omega) _ (Lib.hid (HSZ.out.c (by omega) HR.out.2.2.2.1 (by have := HX.out; omega) ((grown_sees ST.out.2.1 HR.out.2.2.2.2.2.2.1 hB hBg).imp fun _ h => Nat.lt_of_lt_of_le h (Nat.le_trans hB ST.out.2.1.size)) (Below.refl _ _)))).mono ?_
        rintro e w2 ⟨rfl, hb2⟩
        have ST := Lib.hid (ST.out.below hb2)
        clear c0 c1 c2 hb2
        obtain ⟨_, _, _, c0, c1, c2⟩ := ST.out
        go_wp2_with fail
        refine (app_length x B g (k + m + a) cap _ (by omega) (by omega) _ ST.out.1).mono ?_
        rintro e w3 ⟨rfl, ho, hg⟩
        have ST := Lib.hid (ST.out.puts ho hg)
        clear c0 c1 c2 ho hg
        obtain ⟨_, _, _, c0, c1, c2⟩ := ST.out
        have HS := Lib.hid (grown_seesP ST.out.2.1 HR.out.2.2.2.2.2.1 hB hBg)
        go_wp2_with (at_builtin; refine wpList_append_fits_any _ rfl (.tmp 21) (.tmp 23) 23 rfl B 5 i0 1 Tryd.underlying23 hi hz1 g (k + m + a + (1 + lb x)) cap _ rfl ST.out.1 Av v.length cv (Us v) rfl (by simp [Us]) (apl_none HR.out.2.2.2.2.2.2.2.2 HS.out) HS.out.src (Us_one _) (by have := HX.out; omega) ?_; intro w4 ho hg; rw [← Us_append] at ho; have ST := Lib.hid (ST.out.puts ho hg); clear c0 c1 c2 ho hg; obtain ⟨_, _, _, c0, c1, c2⟩ := ST.out)
        have hi3 := IH.out kk Ak ck B g (k + m + a + (1 + lb x) + v.length) cap _ w4 (by omega) HR.out.2.2.2.1 HR.out.2.2.2.2.1 (by have := HX.out; omega) (grown_sees ST.out.2.1 HR.out.2.2.2.2.2.2.1 hB hBg) (Nat.le_trans hB ST.out.2.1.size) ST.out.1 (by have := HX.out; omega)
        obtain ⟨M, hM⟩ : ∃ M, M = m + (a + 1 + lb x + x) := ⟨_, rfl⟩
        rw [show k + m + a + (1 + lb x) + v.length + encN kk = k + M by have := HX.out; omega] at hi3
        refine hi3.mono ?_
        rintro e w5 ⟨rfl, ho, hg⟩
        have HF := Lib.hid (show _ ∧ _ from ⟨ho, grown_trans ST.out.2.1 hg⟩)
        clear c0 c1 c2 ho hg hi3 ST HS
        go_wp2_with fail
        go_roundw
        case rel => exact ⟨j + 1, M, r, _, by omega, by go_num, (by rw [hM]), by omega, Lib.hid ⟨HR.out.1, HR.out.2.1, by omega, HR.out.2.2.1, (by rw [← HR.out.2.2.2.2.2.2.2.1]; simp only [List.append_assoc]), HF.out.1, HF.out.2⟩⟩
        case measure => simp [intOf]; omega
end Go.Proofs.YtcapbojjceeapaaDoor
