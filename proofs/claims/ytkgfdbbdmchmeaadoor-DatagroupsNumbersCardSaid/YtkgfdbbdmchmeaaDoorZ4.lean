/-
  What is proved here: what the program's lengthBytes returns (how many bytes follow the first one of a length in shortest form), for every length; no condition.
-/
import Derived.Test.YtkgfdbbdmchmeaaDoorRows
import Derived.Test.YtkgfdbbdmchmeaaDoorZ0
import Derived.Test.YtkgfdbbdmchmeaaDoorZ3
import Derived.Test.YtkgfdbbdmchmeaaDoorZ2
namespace Go.Proofs.YtkgfdbbdmchmeaaDoor
open Go.RowKit
set_option maxRecDepth 8000
theorem bits_len (x : Int) (w : World) (h0 : 0 ≤ x) (h1 : x ≤ 18446744073709551615) :
    Calls Tryd.prog 70 #[.int .u64 x] w fun e w' => e = .returned (.int .i64 (Lib.bitLen x.toNat)) ∧ w' = w := by
  go_enter Tryd.func70, Tryd.ntmps70
  go_wp2_with (go_at_call 75; refine (bits_len64 x _ h0 h1).mono ?_; rintro e w' ⟨rfl, rfl⟩)
  go_ret
  exact ⟨rfl, rfl⟩
def lb (n : Nat) : Nat := if n ≤ 127 then 0 else (Lib.bitLen n + 7) / 8
theorem bitLen_256 {n : Nat} (h : n < 256) : Lib.bitLen n ≤ 8 := Lib.bitLen_le n 8 (by decide) h
theorem bitLen_128 : ∀ n : Fin 256, 0 < n.val → 1 ≤ Lib.bitLen n.val := by decide +kernel
theorem lb_0 {n : Nat} (h : n ≤ 127) : lb n = 0 := by unfold lb; rw [if_pos h]
theorem lb_1 {n : Nat} (h : 127 < n) (h2 : n < 256) : lb n = 1 := by
  unfold lb; rw [if_neg (by omega)]
  have h3 := bitLen_256 h2
  have h4 := bitLen_128 ⟨n, h2⟩ (by simp; omega)
  simp only at h4
  omega
theorem lb_2 {n : Nat} (h : 256 ≤ n) (h2 : n < 65536) : lb n = 2 := by
  unfold lb; rw [if_neg (by omega)]
  have h3 := Lib.bitLen_shift8 n h (by omega)
  have h4 := bitLen_256 (n := n / 256) (by omega)
  have h5 := bitLen_128 ⟨n / 256, by omega⟩ (by simp; omega)
  simp only at h5
  omega
theorem lb_le {n : Nat} (h : n < 9223372036854775808) : lb n ≤ 8 := by
  unfold lb
  split
  · omega
  · have := Lib.bitLen_le n 63 (by decide) h
    omega
theorem bitLenAux_fuel_le : ∀ (f x : Nat), Lib.bitLenAux f x ≤ f
  | 0, _ => by simp [Lib.bitLenAux]
  | f + 1, x => by
    have := bitLenAux_fuel_le f (x / 2)
    simp only [Lib.bitLenAux]
    split <;> omega
theorem lb_le8 (n : Nat) : lb n ≤ 8 := by
  unfold lb
  split
  · omega
  · have := bitLenAux_fuel_le 64 n
    have : Lib.bitLen n ≤ 64 := this
    omega
theorem lb_pos {n : Nat} (h : 127 < n) (h2 : n < 9223372036854775808) : 1 ≤ lb n := by
  unfold lb; rw [if_neg (by omega)]
  by_cases h3 : n < 256
  · have h4 := bitLen_128 ⟨n, h3⟩ (by simp; omega)
    simp only at h4
    omega
  · have h3 := Lib.bitLen_shift8 n (by omega) (by omega)
    omega
theorem length_bytes (n : Nat) (h : n < 9223372036854775808) (w : World) :
    Calls Tryd.prog 57 #[.int .i64 (n : Int)] w fun e w' => e = .returned (.int .i64 (lb n : Nat)) ∧ w' = w := by
  by_cases h1 : n ≤ 127
  · rw [lb_0 h1]
    have d : decide ((n : Int) ≤ 127) = true := by simp; omega
    clear h1
    go_enter Tryd.func57, Tryd.ntmps57
    go_wp2_with fail
    go_ret
    exact ⟨rfl, rfl⟩
  · have d : decide ((n : Int) ≤ 127) = false := by simp; omega
    have hb := Lib.bitLen_le n 63 (by decide) h
    have hc : ∀ u, Calls Tryd.prog 70 #[.int .u64 (n : Int)] u fun e w' => e = .returned (.int .i64 (Lib.bitLen n : Nat)) ∧ w' = u := fun u => by
      have := bits_len (n : Int) u (by omega) (by omega)
      simpa using this
    have HC := Lib.hid hc
    have e : (lb n : Int) = ((Lib.bitLen n : Int) + 7) / 8 := by
      unfold lb; rw [if_neg h1]; omega
    rw [e]
    clear hc e h1
    go_enter Tryd.func57, Tryd.ntmps57
    go_wp2_with (go_at_call 70; refine (HC.out _).mono ?_; rintro e w' ⟨rfl, rfl⟩)
    go_ret
    exact ⟨rfl, rfl⟩
end Go.Proofs.YtkgfdbbdmchmeaaDoor
namespace Go.Proofs.YtkgfdbbdmchmeaaDoor
open Go.RowKit
set_option maxRecDepth 8000
def chk1 (t : Int) (lv lk : Nat) (d : Int) : Int :=
  if validB t = false then 4 else if (consB t = true ∧ 0 < lv) ∨ (consB t = false ∧ 0 < lk) then 1 else if 8 < d then 7 else 0
set_option maxHeartbeats 1000000 in
theorem check_object (b o : Nat) (t : Int) (lo : -9223372036854775808 ≤ t) (hi : t ≤ 9223372036854775807) (lv lk cv ck : Nat) (Av Ak : Option Addr) (d : Int) (w : World)
    (g0 : w.cell? ⟨b, o, none⟩ = some (.int .i64 t)) (g1 : w.cell? ⟨b, o + 1, none⟩ = some (.slice Av lv cv)) (g2 : w.cell? ⟨b, o + 2, none⟩ = some (.slice Ak lk ck)) :
    Calls Tryd.prog 54 #[.pointer (some ⟨b, o, none⟩), .int .i64 d] w fun e w' => e = .returned (.int .i64 (chk1 t lv lk d)) ∧ w' = w := by
  cases hv : validB t
  · have he : chk1 t lv lk d = 4 := by unfold chk1; rw [if_pos hv]
    have hw : ∀ u, Calls Tryd.prog 68 #[.int .i64 t] u fun e w' => e = .returned (.bool false) ∧ w' = u := fun u => by have := tlv_valid t lo hi u; rwa [hv] at this
    have HW := Lib.hid hw
    rw [he]
    clear hw he hv
    go_enter Tryd.func54, Tryd.ntmps54
    go_wp2_with (go_at_call 68; refine (HW.out _).mono ?_; rintro e w' ⟨rfl, rfl⟩)
    go_ret
    exact ⟨rfl, rfl⟩
  · have hw : ∀ u, Calls Tryd.prog 68 #[.int .i64 t] u fun e w' => e = .returned (.bool true) ∧ w' = u := fun u => by have := tlv_valid t lo hi u; rwa [hv] at this
    have HW := Lib.hid hw
    clear hw
    cases hc : consB t
    · have hk : ∀ u, Calls Tryd.prog 69 #[.int .i64 t] u fun e w' => e = .returned (.bool false) ∧ w' = u := fun u => by have := tlv_cons t lo hi u; rwa [hc] at this
      have HK := Lib.hid hk
      clear hk
      by_cases h1 : 0 < lk
      · have he : chk1 t lv lk d = 1 := by unfold chk1; rw [if_neg (by simp [hv]), if_pos (.inr ⟨hc, h1⟩)]
        have d1 : decide (0 < lk) = true := by simp; omega
        rw [he]
        clear he hv hc h1
        go_enter Tryd.func54, Tryd.ntmps54
        go_wp2_with (first | (go_at_call 68; refine (HW.out _).mono ?_; rintro e w' ⟨rfl, rfl⟩) | (go_at_call 69; refine (HK.out _).mono ?_; rintro e w' ⟨rfl, rfl⟩))
        go_ret
        exact ⟨rfl, rfl⟩
      · have d1 : decide (0 < lk) = false := by simp; omega
        by_cases h2 : 8 < d
        · have he : chk1 t lv lk d = 7 := by unfold chk1; rw [if_neg (by simp [hv]), if_neg (by simp [hc]; omega), if_pos h2]
          have d2 : decide (8 < d) = true := by simpa using h2
          rw [he]
          clear he hv hc h1 h2
          go_enter Tryd.func54, Tryd.ntmps54
          go_wp2_with (first | (go_at_call 68; refine (HW.out _).mono ?_; rintro e w' ⟨rfl, rfl⟩) | (go_at_call 69; refine (HK.out _).mono ?_; rintro e w' ⟨rfl, rfl⟩))
          go_ret
          exact ⟨rfl, rfl⟩
        · have he : chk1 t lv lk d = 0 := by unfold chk1; rw [if_neg (by simp [hv]), if_neg (by simp [hc]; omega), if_neg h2]
          have d2 : decide (8 < d) = false := by simpa using h2
          rw [he]
          clear he hv hc h1 h2
          go_enter Tryd.func54, Tryd.ntmps54
          go_wp2_with (first | (go_at_call 68; refine (HW.out _).mono ?_; rintro e w' ⟨rfl, rfl⟩) | (go_at_call 69; refine (HK.out _).mono ?_; rintro e w' ⟨rfl, rfl⟩))
          go_ret
          exact ⟨rfl, rfl⟩
    · have hk : ∀ u, Calls Tryd.prog 69 #[.int .i64 t] u fun e w' => e = .returned (.bool true) ∧ w' = u := fun u => by have := tlv_cons t lo hi u; rwa [hc] at this
      have HK := Lib.hid hk
      clear hk
      by_cases h1 : 0 < lv
      · have he : chk1 t lv lk d = 1 := by unfold chk1; rw [if_neg (by simp [hv]), if_pos (.inl ⟨hc, h1⟩)]
        have d1 : decide (0 < lv) = true := by simp; omega
        rw [he]
        clear he hv hc h1
        go_enter Tryd.func54, Tryd.ntmps54
        go_wp2_with (first | (go_at_call 68; refine (HW.out _).mono ?_; rintro e w' ⟨rfl, rfl⟩) | (go_at_call 69; refine (HK.out _).mono ?_; rintro e w' ⟨rfl, rfl⟩))
        go_ret
        exact ⟨rfl, rfl⟩
      · have d1 : decide (0 < lv) = false := by simp; omega
        by_cases h2 : 8 < d
        · have he : chk1 t lv lk d = 7 := by unfold chk1; rw [if_neg (by simp [hv]), if_neg (by simp [hc]; omega), if_pos h2]
          have d2 : decide (8 < d) = true := by simpa using h2
          rw [he]
          clear he hv hc h1 h2
          go_enter Tryd.func54, Tryd.ntmps54
          go_wp2_with (first | (go_at_call 68; refine (HW.out _).mono ?_; rintro e w' ⟨rfl, rfl⟩) | (go_at_call 69; refine (HK.out _).mono ?_; rintro e w' ⟨rfl, rfl⟩))
          go_ret
          exact ⟨rfl, rfl⟩
        · have he : chk1 t lv lk d = 0 := by unfold chk1; rw [if_neg (by simp [hv]), if_neg (by simp [hc]; omega), if_neg h2]
          have d2 : decide (8 < d) = false := by simpa using h2
          rw [he]
          clear he hv hc h1 h2
          go_enter Tryd.func54, Tryd.ntmps54
          go_wp2_with (first | (go_at_call 68; refine (HW.out _).mono ?_; rintro e w' ⟨rfl, rfl⟩) | (go_at_call 69; refine (HK.out _).mono ?_; rintro e w' ⟨rfl, rfl⟩))
          go_ret
          exact ⟨rfl, rfl⟩
def chkE : F → Int → Int
  | .nil, _ => 0
  | .cons t v k r, d => if chk1 t v.length k.len d ≠ 0 then chk1 t v.length k.len d else if chkE k (d + 1) ≠ 0 then chkE k (d + 1) else chkE r d
def F.under : F → Nat
  | .nil => 0
  | .cons _ _ k r => k.size + r.under
theorem F.size_eq : ∀ f : F, f.size = f.len + f.under
  | .nil => rfl
  | .cons _ _ k r => by have := r.size_eq; simp only [F.len, F.size, F.under]; omega
def F.ok : F → Prop
  | .nil => True
  | .cons t v k r => (-9223372036854775808 ≤ t ∧ t ≤ 9223372036854775807) ∧ v.length ≤ 140737488351232 ∧ k.ok ∧ r.ok
theorem chk1_le {t : Int} {lv lk : Nat} {d : Int} (h : chk1 t lv lk d = 0) : d ≤ 8 := by
  unfold chk1 at h
  split at h
  · omega
  · split at h
    · omega
    · split at h <;> omega
theorem chkE_1 {t : Int} {v : List UInt8} {k r : F} {d : Int} (h : chk1 t v.length k.len d ≠ 0) : chkE (.cons t v k r) d = chk1 t v.length k.len d := by simp only [chkE]; rw [if_pos h]
theorem chkE_2 {t : Int} {v : List UInt8} {k r : F} {d : Int} (h : chk1 t v.length k.len d = 0) (h2 : chkE k (d + 1) ≠ 0) : chkE (.cons t v k r) d = chkE k (d + 1) := by simp only [chkE]; rw [if_neg (by omega), if_pos h2]
theorem chkE_3 {t : Int} {v : List UInt8} {k r : F} {d : Int} (h : chk1 t v.length k.len d = 0) (h2 : chkE k (d + 1) = 0) : chkE (.cons t v k r) d = chkE r d := by simp only [chkE]; rw [if_neg (by omega), if_neg (by omega)]
def ChkIs (f : F) (d : Int) (w : World) (e : Ending) (w' : World) : Prop :=
  e = .returned (.tuple #[.int .i64 (if chkE f d = 0 then (f.size : Int) else 0), .int .i64 (chkE f d)]) ∧ w' = w
theorem chk_bad {f : F} {d x : Int} {w : World} (h : chkE f d = x) (hx : x ≠ 0) : ChkIs f d w (.returned (.tuple #[.int .i64 0, .int .i64 x])) w := by
  unfold ChkIs
  rw [h, if_neg hx]
  exact ⟨rfl, rfl⟩
theorem chk_good {f : F} {d : Int} {m : Nat} {w : World} (h : chkE f d = 0) (hm : m = f.size) : ChkIs f d w (.returned (.tuple #[.int .i64 (m : Int), .int .i64 0])) w := by
  unfold ChkIs
  rw [h, if_pos rfl, hm]
  exact ⟨rfl, rfl⟩
set_option maxHeartbeats 1000000 in
theorem tlv_check (n : Nat) : ∀ (f : F) (A : Option Addr) (c : Nat) (d : Int) (w : World) (p : Nat → Prop), f.size < n → n ≤ 1125899906842624 → f.ok → 0 ≤ d → d ≤ 9 → SeesF w p A f →
    Calls Tryd.prog 41 #[.slice A f.len c, .int .i64 d] w (ChkIs f d w) := by
  induction n with
  | zero => intro f A c d w p hn; omega
  | succ n ih =>
    intro f A c d w p hn hb hok d0 d9 hs
    obtain ⟨cs, s1, s2⟩ := hs
    have hlen := f.len_le_size
    have hsz := f.size_eq
    have HOK := Lib.hid hok
    have S2 := Lib.hid s2
    have IH := Lib.hid ih
    clear hok s2 ih
    go_enter Tryd.func41, Tryd.ntmps41
    go_wp2_with fail
    go_loopw [6, 15] (fun q i wr => ∃ (k m : Nat) (g : F), k + g.len = f.len ∧ i = .int .i64 k ∧ q = .int .i64 m ∧ m + g.under = f.size ∧ Hid (g.ok ∧ g.size ≤ f.size ∧ HoldsP w p g (cs.drop (3 * k)) ∧ chkE f d = chkE g d) ∧ wr = w) (fun _ i _ => f.len - (intOf i).toNat)
    case atStart => exact ⟨0, f.len, f, by omega, rfl, rfl, by omega, Lib.hid ⟨HOK.out, Nat.le_refl _, S2.out, rfl⟩, rfl⟩
    case round =>
      clear S2 HOK
      obtain ⟨k, m, g, hk, rfl, rfl, hm, HG, rfl⟩ := hrel
      cases g with
      | nil =>
        have hd := chk_good (w := wr) (HG.out.2.2.2.trans rfl) (show m = f.size from hm)
        have HD := Lib.hid hd
        have hk2 : k = f.len := hk
        clear hd hk hm HG s1
        go_wp2_with fail
        go_ret2
        exact HD.out
      | cons t v kk r =>
        have hk1 : k + r.len + 1 = f.len := hk
        have hm1 : m + (kk.size + r.under) = f.size := hm
        have hgs : kk.size + r.size + 1 ≤ f.size := HG.out.2.1
        have hlk := kk.len_le_size
        obtain ⟨lo, hi⟩ := HG.out.1.1
        obtain ⟨b, off, Av, cv, Ak, ck, rfl, hp, g0, g1, g2, sv, sk, hr, hnv⟩ := node_at s1 HG.out.2.2.1
        have HR := Lib.hid hr
        have HK := Lib.hid sk
        clear hk hm hr sk sv hp hnv
        obtain ⟨x, hx⟩ : ∃ x, x = chk1 t v.length kk.len d := ⟨_, rfl⟩
        have hc1 := check_object b (off + k * 3) t lo hi v.length kk.len cv ck Av Ak d wr g0 g1 g2
        rw [← hx] at hc1
        have HC := Lib.hid hc1
        clear hc1 g0 g1
        by_cases h1 : x = 0
        · have d8 : d ≤ 8 := chk1_le (hx.symm.trans h1)
          have hx0 := hx.symm.trans h1
          subst h1
          obtain ⟨y, hy⟩ : ∃ y, y = chkE kk (d + 1) := ⟨_, rfl⟩
          have hc2 := IH.out kk Ak ck (d + 1) wr p (by omega) (by omega) HG.out.1.2.2.1 (by omega) (by omega) HK.out
          unfold ChkIs at hc2
          rw [← hy] at hc2
          by_cases h2 : y = 0
          · subst h2
            rw [if_pos rfl] at hc2
            have HC2 := Lib.hid hc2
            have he : chkE f d = chkE r d := HG.out.2.2.2.trans (chkE_3 hx0 hy.symm)
            have HE := Lib.hid he
            have HOK := Lib.hid HG.out.1.2.2.2
            clear hc2 he HG hx hx0 hy s1 HK IH
            go_wp2_with (first | (go_at_call 54; refine HC.out.mono ?_; rintro e w' ⟨rfl, rfl⟩) | (go_at_call 41; refine HC2.out.mono ?_; rintro e w' ⟨rfl, rfl⟩))
            go_roundw
            case rel => exact ⟨k + 1, m + kk.size, r, by omega, by go_num, by go_num, by omega, Lib.hid ⟨HOK.out, by omega, HR.out, HE.out⟩, trivial⟩
            case measure => simp [intOf]; omega
          · rw [if_neg h2] at hc2
            have HC2 := Lib.hid hc2
            have hd := chk_bad (w := wr) (HG.out.2.2.2.trans ((chkE_2 hx0 (by rw [← hy]; exact h2)).trans hy.symm)) h2
            have HD := Lib.hid hd
            have d1 : (y != 0) = true := by simpa using h2
            clear hd hc2 HG hx hx0 hy s1 HK IH h2 HR
            go_wp2_with (first | (go_at_call 54; refine HC.out.mono ?_; rintro e w' ⟨rfl, rfl⟩) | (go_at_call 41; refine HC2.out.mono ?_; rintro e w' ⟨rfl, rfl⟩))
            go_ret2
            exact HD.out
        · have hd := chk_bad (w := wr) (HG.out.2.2.2.trans ((chkE_1 (by rw [← hx]; exact h1)).trans hx.symm)) h1
          have HD := Lib.hid hd
          have d1 : (x != 0) = true := by simpa using h1
          clear hd HG hx h1 s1 HK HR IH
          go_wp2_with (go_at_call 54; refine HC.out.mono ?_; rintro e w' ⟨rfl, rfl⟩)
          go_ret2
          exact HD.out
end Go.Proofs.YtkgfdbbdmchmeaaDoor
