/-
  What is proved here: the field of two names, by the program and by the reference; for all texts of at most 2^47 bytes and every width.
-/
import Derived.Test.YtdlcoilpkelbaaaGreatDoorRows
import Derived.Test.YtdlcoilpkelbaaaGreatDoorKit
import Derived.Test.YtdlcoilpkelbaaaGreatDoorStr
import Derived.Test.YtdlcoilpkelbaaaGreatDoorOv
import Derived.Test.YtdlcoilpkelbaaaGreatDoorOn
import Derived.Test.YtdlcoilpkelbaaaGreatDoorOe
import Derived.Test.YtdlcoilpkelbaaaGreatDoorShf
namespace Go.Proofs.YtdlcoilpkelbaaaGreatDoor
open Go.RowKit

theorem S_append (x y : List UInt8) : S x ++ S y = S (x ++ y) := by
  apply ByteArray.ext
  simp [S]
theorem S_of (s : ByteArray) : s = S s.data.toList := by simp [S]
theorem S_extract (x : List UInt8) (a b : Nat) : (S x).extract a b = S ((x.drop a).take (b - a)) := by
  apply ByteArray.ext
  simp [S, List.take_drop]
theorem rep_one (c : UInt8) (n : Nat) : Lib.repeatL [c] n = List.replicate n c := by
  induction n with
  | zero => rfl
  | succ n ih => simp [Lib.repeatL, ih, List.replicate_succ]
theorem p_ex_sp (s : ByteArray) (x : List UInt8) (hx : s = S x) (w : World) (hm : s.size ≤ 140737488355328) :
    Calls Tryz.prog 104 #[.string s, .int .u8 32, .int .u8 60] w fun e w' => e = .returned (.string (S (exL 32 60 x))) ∧ Below w.heap.size w w' := p_exchange s x hx 32 60 w hm
theorem p_rep (n : Nat) (hn : n ≤ 64) (w : World) :
    Calls Tryz.prog 37 #[.string ⟨#[60]⟩, .int .i64 n] w fun e w' => e = .returned (.string (S (List.replicate n 60))) ∧ Below w.heap.size w w' := by
  have h := sh_strings_Repeat ⟨#[60]⟩ n w (by omega) (by show 1 * n ≤ _; omega)
  refine h.mono fun e w' ⟨he, hb⟩ => ⟨?_, hb⟩
  rw [he]
  show Ending.returned (.string ⟨(Lib.repeatL [60] n).toArray⟩) = _
  rw [rep_one]
  rfl
theorem p_clone (s : ByteArray) (hs : s.size ≤ 281474976710656) (w : World) :
    Calls Tryz.prog 97 #[.string s] w fun e w' => e = .returned (.string s) ∧ Below w.heap.size w w' := by
  go_enter Tryz.func97, Tryz.ntmps97
  go_wp2_with (go_at_call 119; refine (sh_stringslite_Clone _ _ hs).mono ?_; rintro e w' ⟨rfl, hw⟩)
  go_ret
  exact ⟨rfl, hw⟩

/-- the field of two names, and the code -/
def fieldL (x y : List UInt8) (w : Nat) : List UInt8 := (exL 32 60 x ++ [60, 60] ++ exL 32 60 y ++ List.replicate w 60).take w
def namesE (x y : List UInt8) (w : Int) : Int := if nameL x = false ∨ nameL y = false ∨ x = [] then 14 else if w < 1 ∨ 64 < w then 2 else 0
def namesL (x y : List UInt8) (w : Int) : List UInt8 := if namesE x y w = 0 then fieldL x y w.toNat else []
theorem namesE_1 {x y : List UInt8} {w : Int} (h : nameL x = false ∨ nameL y = false ∨ x = []) : namesE x y w = 14 ∧ namesL x y w = [] := by
  have e : namesE x y w = 14 := by unfold namesE; rw [if_pos h]
  exact ⟨e, by unfold namesL; rw [e]; rfl⟩
theorem namesE_2 {x y : List UInt8} {w : Int} (h : ¬ (nameL x = false ∨ nameL y = false ∨ x = [])) (h2 : w < 1 ∨ 64 < w) : namesE x y w = 2 ∧ namesL x y w = [] := by
  have e : namesE x y w = 2 := by unfold namesE; rw [if_neg h, if_pos h2]
  exact ⟨e, by unfold namesL; rw [e]; rfl⟩
theorem namesE_3 {x y : List UInt8} {w : Int} (h : ¬ (nameL x = false ∨ nameL y = false ∨ x = [])) (h2 : ¬ (w < 1 ∨ 64 < w)) : namesE x y w = 0 ∧ namesL x y w = fieldL x y w.toNat := by
  have e : namesE x y w = 0 := by unfold namesE; rw [if_neg h, if_neg h2]
  exact ⟨e, by unfold namesL; rw [e]; rfl⟩

/-- with fillers up to a width -/
def wideL (x : List UInt8) (w : Nat) : List UInt8 := x ++ List.replicate (w - x.length) 60
theorem wideL_len (x : List UInt8) (w : Nat) : w ≤ (wideL x w).length := by simp [wideL]; omega
theorem take_fill (x : List UInt8) (w n : Nat) (h : w ≤ x.length + n) : (x ++ List.replicate n 60).take w = (wideL x w).take w := by
  unfold wideL
  rw [List.take_append, List.take_append]
  congr 1
  rw [List.take_replicate, List.take_replicate]
  congr 1
  omega
theorem field_some (x y : List UInt8) (w : Nat) : fieldL x y w = (wideL (exL 32 60 x ++ ([60, 60] ++ exL 32 60 y)) w).take w := by
  unfold fieldL
  rw [← take_fill _ w w (by omega)]
  simp
theorem field_none (x : List UInt8) (w : Nat) : fieldL x [] w = (wideL (exL 32 60 x) w).take w := by
  unfold fieldL
  rw [← take_fill _ w (w + 2) (by omega)]
  simp [exL, List.replicate_succ]

theorem s_nil {s : ByteArray} {x : List UInt8} (hx : s = S x) (h : x = []) : s.toList.isEmpty = true := by rw [hx, S_toList, h]; rfl
theorem s_ne {s : ByteArray} {x : List UInt8} (hx : s = S x) (h : x ≠ []) : s.toList.isEmpty = false := by
  rw [hx, S_toList]; simpa using h

set_option maxHeartbeats 1600000 in
theorem p_names (s t : ByteArray) (x y : List UInt8) (hx : s = S x) (hy : t = S y) (wd : Int) (w : World) (hm : s.size ≤ 140737488355328) (hm2 : t.size ≤ 140737488355328) :
    Calls Tryz.prog 76 #[.string s, .string t, .int .i64 wd] w fun e w' => e = .returned (.tuple #[.string (S (namesL x y wd)), .int .i64 (namesE x y wd)]) ∧ Below w.heap.size w w' := by
  have HX := Lib.hid hx
  have HY := Lib.hid hy
  by_cases h : nameL x = false ∨ nameL y = false ∨ x = []
  · obtain ⟨e1, e2⟩ := namesE_1 (w := wd) h
    rw [e1, e2]
    clear e1 e2
    rcases hn1 : nameL x with _ | _
    · have H1 := Lib.hid hn1
      clear hn1 h hx hy
      go_enter Tryz.func76, Tryz.ntmps76
      go_wp2_with (go_at_call 43; refine (p_name s x HX.out _ hm).mono ?_; rintro e w' ⟨rfl, hw⟩; rw [hw, H1.out]; clear hw)
      go_ret2
      exact ⟨rfl, Below.refl _ _⟩
    · have H1 := Lib.hid hn1
      rcases hn2 : nameL y with _ | _
      · have H2 := Lib.hid hn2
        clear hn1 hn2 h hx hy
        go_enter Tryz.func76, Tryz.ntmps76
        go_wp2_with (go_at_call 43; first
          | (with_reducible refine (p_name s x HX.out _ hm).mono ?_; rintro e w' ⟨rfl, hw⟩; rw [hw, H1.out]; clear hw)
          | (with_reducible refine (p_name t y HY.out _ hm2).mono ?_; rintro e w' ⟨rfl, hw⟩; rw [hw, H2.out]; clear hw))
        go_ret2
        exact ⟨rfl, Below.refl _ _⟩
      · have H2 := Lib.hid hn2
        have h3 : x = [] := by rw [hn1, hn2] at h; simpa using h
        have he := s_nil hx h3
        clear hn1 hn2 h hx hy h3
        go_enter Tryz.func76, Tryz.ntmps76
        go_wp2_with (go_at_call 43; first
          | (with_reducible refine (p_name s x HX.out _ hm).mono ?_; rintro e w' ⟨rfl, hw⟩; rw [hw, H1.out]; clear hw)
          | (with_reducible refine (p_name t y HY.out _ hm2).mono ?_; rintro e w' ⟨rfl, hw⟩; rw [hw, H2.out]; clear hw))
        go_ret2
        exact ⟨rfl, Below.refl _ _⟩
  · have hn1 : nameL x = true := by rcases hb : nameL x with _ | _; exact absurd (.inl hb) h; rfl
    have hn2 : nameL y = true := by rcases hb : nameL y with _ | _; exact absurd (.inr (.inl hb)) h; rfl
    have hne := s_ne hx (fun e => h (.inr (.inr e)))
    have H1 := Lib.hid hn1
    have H2 := Lib.hid hn2
    clear hn1 hn2
    by_cases h2 : wd < 1 ∨ 64 < wd
    · obtain ⟨e1, e2⟩ := namesE_2 h h2
      rw [e1, e2]
      clear e1 e2 h hx hy
      rcases h2 with h2 | h2
      all_goals
        go_enter Tryz.func76, Tryz.ntmps76
        go_wp2_with (go_at_call 43; first
          | (with_reducible refine (p_name s x HX.out _ hm).mono ?_; rintro e w' ⟨rfl, hw⟩; rw [hw, H1.out]; clear hw)
          | (with_reducible refine (p_name t y HY.out _ hm2).mono ?_; rintro e w' ⟨rfl, hw⟩; rw [hw, H2.out]; clear hw))
        go_ret2
        exact ⟨rfl, Below.refl _ _⟩
    · obtain ⟨e1, e2⟩ := namesE_3 h h2
      rw [e1, e2]
      clear e1 e2 h hx hy
      obtain ⟨n, rfl⟩ : ∃ n : Nat, wd = (n : Int) := ⟨wd.toNat, by omega⟩
      have n1 : 1 ≤ n := by omega
      have n2 : n ≤ 64 := by omega
      clear h2
      have R : Hid (∀ a : ByteArray, a.size = n → a = a) := Lib.hid fun _ _ => rfl
      obtain ⟨SA, hSA⟩ : ∃ SA, S (exL 32 60 x) = SA := ⟨_, rfl⟩
      obtain ⟨SB, hSB⟩ : ∃ SB, S (exL 32 60 y) = SB := ⟨_, rfl⟩
      obtain ⟨SR, hSR⟩ : ∃ SR, S (List.replicate n 60) = SR := ⟨_, rfl⟩
      have hr : SR.size = n := by rw [← hSR, S_size]; simp
      have HA := Lib.hid hSA
      have HB := Lib.hid hSB
      have HR := Lib.hid hSR
      have hla : SA.size ≤ 140737488355328 := by rw [← hSA, S_size, exL_length, ← S_size, ← HX.out]; exact hm
      have hlb : SB.size ≤ 140737488355328 := by rw [← hSB, S_size, exL_length, ← S_size, ← HY.out]; exact hm2
      have hF : Hid ((SA ++ ⟨#[60, 60]⟩ ++ SB ++ SR).extract 0 n = S (fieldL x y n)) := Lib.hid (by
        rw [← hSA, ← hSB, ← hSR]
        show ((S (exL 32 60 x) ++ S [60, 60] ++ S (exL 32 60 y) ++ S (List.replicate n 60)).extract 0 n) = _
        rw [S_append, S_append, S_append, S_extract]
        simp [fieldL])
      clear hSA hSB hSR R
      go_enter Tryz.func76, Tryz.ntmps76
      go_wp2_with (first
        | (go_at_call 43; first
          | (with_reducible refine (p_name s x HX.out _ hm).mono ?_; rintro e w' ⟨rfl, hw⟩; rw [hw, H1.out]; clear hw)
          | (with_reducible refine (p_name t y HY.out _ hm2).mono ?_; rintro e w' ⟨rfl, hw⟩; rw [hw, H2.out]; clear hw))
        | (go_at_call 104; first
          | (with_reducible refine (p_ex_sp s x HX.out _ hm).mono ?_; rintro e w1 ⟨rfl, hw1⟩; rw [HA.out])
          | (with_reducible refine (p_ex_sp t y HY.out _ hm2).mono ?_; rintro e w2 ⟨rfl, hw2⟩; rw [HB.out]))
        | (go_at_call 37; refine (p_rep n n2 _).mono ?_; rintro e w3 ⟨rfl, hw3⟩; rw [HR.out])
        | (go_at_call 97; refine (p_clone _ (by rw [ByteArray.size_extract]; omega) _).mono ?_; rintro e w4 ⟨rfl, hw4⟩; rw [hF.out]))
      go_ret2
      exact ⟨rfl, below_on (below_on (below_on hw1 hw2) hw3) hw4⟩

/-- with fillers, k of them by now -/
theorem r_wide (s : ByteArray) (x : List UInt8) (hx : s = S x) (n : Nat) (hn : n ≤ 64) (w : World) :
    Calls Tryz.prog 32 #[.string s, .int .i64 n] w fun e w' => e = .returned (.string (S (wideL x n))) ∧ w' = w := by
  have HX := Lib.hid hx
  go_enter Tryz.func32, Tryz.ntmps32
  go_wp2
  go_loop [0] (fun v => ∃ (k : Nat) (r : ByteArray), v = .string r ∧ Hid (r = S (x ++ List.replicate k 60)) ∧ Hid (k = 0 ∨ x.length + k ≤ n)) (fun v => n - (match v with | .string r => r.size | _ => 0))
  case atStart => exact ⟨0, s, rfl, Lib.hid (by rw [hx]; simp), Lib.hid (.inl rfl)⟩
  case round =>
    obtain ⟨k, r, rfl, HR, HK⟩ := hrel
    have hsz : Hid (r.size = x.length + k) := Lib.hid (by rw [HR.out, S_size]; simp)
    by_cases hlt : r.size < n
    · have h2 : Hid (r ++ ⟨#[60]⟩ = S (x ++ List.replicate (k + 1) 60)) := Lib.hid (by
        rw [HR.out]
        show S _ ++ S [60] = _
        rw [S_append, List.replicate_succ', List.append_assoc])
      go_wp2
      go_round
      case rel => exact ⟨k + 1, _, rfl, h2, Lib.hid (.inr (by have := hsz.out; omega))⟩
      case measure =>
        have : (r ++ (⟨#[60]⟩ : ByteArray)).size = r.size + 1 := by rw [ByteArray.size_append]; rfl
        simp only [this]
        omega
    · have hd : r = S (wideL x n) := by
        rw [HR.out]
        unfold wideL
        have := HK.out
        have := hsz.out
        congr 3
        omega
      have HD := Lib.hid hd
      clear hd
      go_wp2
      go_ret
      exact ⟨by rw [← HD.out]; rfl, rfl⟩

set_option maxHeartbeats 1600000 in
theorem r_names (s t : ByteArray) (x y : List UInt8) (hx : s = S x) (hy : t = S y) (wd : Int) (w : World) (hm : s.size ≤ 140737488355328) (hm2 : t.size ≤ 140737488355328) :
    Calls Tryz.prog 35 #[.string s, .string t, .int .i64 wd] w fun e w' => e = .returned (.tuple #[.string (S (namesL x y wd)), .int .i64 (namesE x y wd)]) ∧ Below w.heap.size w w' := by
  have HX := Lib.hid hx
  have HY := Lib.hid hy
  by_cases h : nameL x = false ∨ nameL y = false ∨ x = []
  · obtain ⟨e1, e2⟩ := namesE_1 (w := wd) h
    rw [e1, e2]
    clear e1 e2
    rcases hn1 : nameL x with _ | _
    · have H1 := Lib.hid hn1
      clear hn1 h hx hy
      go_enter Tryz.func35, Tryz.ntmps35
      go_wp2_with (go_at_call 51; refine (r_name s x HX.out _ hm).mono ?_; rintro e w' ⟨rfl, hw⟩; rw [hw, H1.out]; clear hw)
      go_ret2
      exact ⟨rfl, Below.refl _ _⟩
    · have H1 := Lib.hid hn1
      rcases hn2 : nameL y with _ | _
      · have H2 := Lib.hid hn2
        clear hn1 hn2 h hx hy
        go_enter Tryz.func35, Tryz.ntmps35
        go_wp2_with (go_at_call 51; first
          | (with_reducible refine (r_name s x HX.out _ hm).mono ?_; rintro e w' ⟨rfl, hw⟩; rw [hw, H1.out]; clear hw)
          | (with_reducible refine (r_name t y HY.out _ hm2).mono ?_; rintro e w' ⟨rfl, hw⟩; rw [hw, H2.out]; clear hw))
        go_ret2
        exact ⟨rfl, Below.refl _ _⟩
      · have H2 := Lib.hid hn2
        have h3 : x = [] := by rw [hn1, hn2] at h; simpa using h
        have he := s_nil hx h3
        clear hn1 hn2 h hx hy h3
        go_enter Tryz.func35, Tryz.ntmps35
        go_wp2_with (go_at_call 51; first
          | (with_reducible refine (r_name s x HX.out _ hm).mono ?_; rintro e w' ⟨rfl, hw⟩; rw [hw, H1.out]; clear hw)
          | (with_reducible refine (r_name t y HY.out _ hm2).mono ?_; rintro e w' ⟨rfl, hw⟩; rw [hw, H2.out]; clear hw))
        go_ret2
        exact ⟨rfl, Below.refl _ _⟩
  · have hn1 : nameL x = true := by rcases hb : nameL x with _ | _; exact absurd (.inl hb) h; rfl
    have hn2 : nameL y = true := by rcases hb : nameL y with _ | _; exact absurd (.inr (.inl hb)) h; rfl
    have hne := s_ne hx (fun e => h (.inr (.inr e)))
    have H1 := Lib.hid hn1
    have H2 := Lib.hid hn2
    clear hn1 hn2
    by_cases h2 : wd < 1 ∨ 64 < wd
    · obtain ⟨e1, e2⟩ := namesE_2 h h2
      rw [e1, e2]
      clear e1 e2 h hx hy
      rcases h2 with h2 | h2
      all_goals
        go_enter Tryz.func35, Tryz.ntmps35
        go_wp2_with (go_at_call 51; first
          | (with_reducible refine (r_name s x HX.out _ hm).mono ?_; rintro e w' ⟨rfl, hw⟩; rw [hw, H1.out]; clear hw)
          | (with_reducible refine (r_name t y HY.out _ hm2).mono ?_; rintro e w' ⟨rfl, hw⟩; rw [hw, H2.out]; clear hw))
        go_ret2
        exact ⟨rfl, Below.refl _ _⟩
    · obtain ⟨e1, e2⟩ := namesE_3 h h2
      rw [e1, e2]
      clear e1 e2 h
      obtain ⟨n, rfl⟩ : ∃ n : Nat, wd = (n : Int) := ⟨wd.toNat, by omega⟩
      have n1 : 1 ≤ n := by omega
      have n2 : n ≤ 64 := by omega
      clear h2
      obtain ⟨SA, hSA⟩ : ∃ SA, S (exL 32 60 x) = SA := ⟨_, rfl⟩
      obtain ⟨SB, hSB⟩ : ∃ SB, S (exL 32 60 y) = SB := ⟨_, rfl⟩
      have HA := Lib.hid hSA
      have HB := Lib.hid hSB
      have hla : SA.size ≤ 140737488355328 := by rw [← hSA, S_size, exL_length, ← S_size, ← HX.out]; exact hm
      have hlb : SB.size ≤ 140737488355328 := by rw [← hSB, S_size, exL_length, ← S_size, ← HY.out]; exact hm2
      by_cases hy0 : y = []
      · have ht := s_nil hy hy0
        obtain ⟨SW, hSW⟩ : ∃ SW, S (wideL (exL 32 60 x) n) = SW := ⟨_, rfl⟩
        have hwl : n ≤ SW.size := by rw [← hSW, S_size]; exact wideL_len _ _
        have hF : Hid (SW.extract 0 n = S (fieldL x y n)) := Lib.hid (by rw [← hSW, S_extract, hy0, field_none]; simp)
        have HW := Lib.hid hSW
        clear hSA hSB hSW hx hy hy0
        go_enter Tryz.func35, Tryz.ntmps35
        go_wp2_with (first
          | (go_at_call 51; first
            | (with_reducible refine (r_name s x HX.out _ hm).mono ?_; rintro e w' ⟨rfl, hw⟩; rw [hw, H1.out]; clear hw)
            | (with_reducible refine (r_name t y HY.out _ hm2).mono ?_; rintro e w' ⟨rfl, hw⟩; rw [hw, H2.out]; clear hw))
          | (go_at_call 79; with_reducible refine (r_fill s x HX.out _ hm).mono ?_; rintro e w1 ⟨rfl, hw1⟩; rw [HA.out])
          | (go_at_call 32; refine (r_wide _ _ HA.out.symm n n2 _).mono ?_; rintro e w' ⟨rfl, hw⟩; rw [hw, HW.out]; clear hw))
        go_ret2
        exact ⟨by have := hF.out; rw [show ((n : Int).toNat) = n from rfl, ← this]; rfl, hw1⟩
      · have ht := s_ne hy hy0
        have hP : SA ++ (⟨#[60, 60]⟩ ++ SB) = S (exL 32 60 x ++ ([60, 60] ++ exL 32 60 y)) := by
          rw [← hSA, ← hSB]
          show S _ ++ (S [60, 60] ++ S _) = _
          rw [S_append, S_append]
        have HP := Lib.hid hP
        obtain ⟨SW, hSW⟩ : ∃ SW, S (wideL (exL 32 60 x ++ ([60, 60] ++ exL 32 60 y)) n) = SW := ⟨_, rfl⟩
        have hwl : n ≤ SW.size := by rw [← hSW, S_size]; exact wideL_len _ _
        have hF : Hid (SW.extract 0 n = S (fieldL x y n)) := Lib.hid (by rw [← hSW, S_extract, field_some]; simp)
        have HW := Lib.hid hSW
        clear hSA hSB hSW hx hy hy0 hP
        go_enter Tryz.func35, Tryz.ntmps35
        go_wp2_with (first
          | (go_at_call 51; first
            | (with_reducible refine (r_name s x HX.out _ hm).mono ?_; rintro e w' ⟨rfl, hw⟩; rw [hw, H1.out]; clear hw)
            | (with_reducible refine (r_name t y HY.out _ hm2).mono ?_; rintro e w' ⟨rfl, hw⟩; rw [hw, H2.out]; clear hw))
          | (go_at_call 79; first
            | (with_reducible refine (r_fill s x HX.out _ hm).mono ?_; rintro e w1 ⟨rfl, hw1⟩; rw [HA.out])
            | (with_reducible refine (r_fill t y HY.out _ hm2).mono ?_; rintro e w2 ⟨rfl, hw2⟩; rw [HB.out]))
          | (go_at_call 32; refine (r_wide _ _ HP.out n n2 _).mono ?_; rintro e w' ⟨rfl, hw⟩; rw [hw, HW.out]; clear hw))
        go_ret2
        exact ⟨by have := hF.out; rw [show ((n : Int).toNat) = n from rfl, ← this]; rfl, below_on hw1 hw2⟩

end Go.Proofs.YtdlcoilpkelbaaaGreatDoor
