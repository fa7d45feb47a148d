/-
  What is proved here: what Secret of the program and of the reference answers, for bytes that lie in memory, where the digest's tables lie there too; and that the statements' own check 'awake' returns true.
-/
import Derived.Test.YtdjmehinifnbhaaDoorDw
import Derived.Test.YtdjmehinifnbhaaDoorRsb
namespace Go.Proofs.YtdjmehinifnbhaaDoor
open Go.RowKit
set_option linter.unusedVariables false

def secN (x : List UInt8) : Nat := 1 + numL ((drawL x 8).take 7) % 1073741788
theorem secN_in (x : List UInt8) : 1 ≤ secN x ∧ secN x < 1073741789 := by unfold secN; omega
theorem take7_len (x : List UInt8) : ((drawL x 8).take 7).length = 7 := by rw [List.length_take, drawL_len]; rfl
/-- a number, bytes -/
def GivesK (w : World) (k : Nat) (nx : List UInt8) (e : Ending) (w' : World) : Prop := ∃ B d, e = .returned (.tuple #[.int .i64 (k : Int), .slice B 32 d]) ∧ SeesP w' (· < w'.heap.size) B (Us nx) ∧ Below w.heap.size w w'
theorem draw_8 {x : List UInt8} {A : Option Addr} {a c : Nat} {w : World} (hx : x.length = a) (hl : a ≤ 140737488351300) (hs : SeesP w (· < w.heap.size) A (Us x)) (ht : TabA w) :
    Calls Tryd.prog 11 #[.slice A a c, .int .i64 8] w (GivesD w 8 32 (drawL x 8) (nextL x) 0) := draw_yes hx (by decide) hl hs ht
theorem ref_draw_8 {x : List UInt8} {A : Option Addr} {a c : Nat} {w : World} (hx : x.length = a) (hl : a ≤ 140737488351300) (ha : A = none → c = 0) (hs : SeesP w (· < w.heap.size) A (Us x)) (ht : TabR w) :
    Calls Tryd.prog 12 #[.slice A a c, .int .i64 8] w (GivesD w 8 32 (drawL x 8) (nextL x) 0) := ref_draw_yes hx (by decide) hl ha hs ht
/-- the number of seven bytes that lie in memory -/
theorem num_7 {y : List UInt8} {m : Nat} (hy : y.length = 7) (hm : numL y = m) {e : Ending} (h : NumEnd y e) : e = .returned (.tuple #[.int .i64 (m : Int), .int .i64 0]) := by
  unfold NumEnd numV numE at h
  rw [if_pos (by omega), if_pos (by omega), hm] at h
  exact h
theorem prog_num7 {y : List UInt8} {m : Nat} {A : Option Addr} {c : Nat} {w : World} (hy : y.length = 7) (hm : numL y = m) (hs : SeesP w (· < w.heap.size) A (Us y)) :
    Calls Tryd.prog 21 #[.slice A 7 c] w fun e w' => e = .returned (.tuple #[.int .i64 (m : Int), .int .i64 0]) ∧ w = w' :=
  (oct_num A c 7 y w w.heap.size (SeesP.iff_sees.1 hs) hy.symm (by decide)).mono fun e w' h => ⟨num_7 hy hm h.1, h.2.symm⟩
theorem ref_num7 {y : List UInt8} {m : Nat} {A : Option Addr} {c : Nat} {w : World} (hy : y.length = 7) (hm : numL y = m) (hs : SeesP w (· < w.heap.size) A (Us y)) :
    Calls Tryd.prog 29 #[.slice A 7 c] w fun e w' => e = .returned (.tuple #[.int .i64 (m : Int), .int .i64 0]) ∧ w = w' :=
  (ref_num A c 7 y w w.heap.size (SeesP.iff_sees.1 hs) hy.symm (by decide)).mono fun e w' h => ⟨num_7 hy hm h.1, h.2.symm⟩
theorem num7_lt {y : List UInt8} (hy : y.length = 7) : numL y < 72057594037927936 := by
  have := numL_lt y 7 (by omega)
  rwa [List.take_of_length_le (by omega)] at this
set_option maxHeartbeats 400000 in
theorem secret_ok {x : List UInt8} {A : Option Addr} {a c : Nat} {w : World} (hx : x.length = a) (hl : a ≤ 140737488351300) (hs : SeesP w (· < w.heap.size) A (Us x)) (ht : TabA w) :
    Calls Tryd.prog 13 #[.slice A a c] w (GivesK w (secN x) (nextL x)) := by
  obtain ⟨m, hm⟩ : ∃ m, numL ((drawL x 8).take 7) = m := ⟨_, rfl⟩
  have hmb : m < 72057594037927936 := by rw [← hm]; exact num7_lt (take7_len x)
  obtain ⟨r, hr⟩ : ∃ r, r = m % 1073741788 := ⟨_, rfl⟩
  have hri : (m : Int) % 1073741788 = (r : Int) := by omega
  have hrb : r < 1073741788 := by omega
  have HN := Lib.hid (show secN x = 1 + r from by rw [secN, hm, hr])
  have H := Lib.hid (show _ ∧ _ ∧ _ ∧ _ ∧ _ from ⟨hx, hl, hs, ht, hm⟩)
  clear hx hl hs ht hm hr
  go_enter Tryd.func13, Tryd.ntmps13
  go_wp2_with (first
    | (go_at_call 11; ((with_reducible refine (draw_8 H.out.1 H.out.2.1 H.out.2.2.1 H.out.2.2.2.1).mono ?_); rintro e w1 ⟨A1, c1, B1, d1, rfl, l1, s1, n1, b1⟩); have H1 := Lib.hid (show _ ∧ _ ∧ _ from ⟨s1, n1, b1⟩); clear s1 n1 b1)
    | (go_at_call 21; ((with_reducible refine (prog_num7 (take7_len x) H.out.2.2.2.2 (H1.out.1.first 7)).mono ?_); rintro e w2 ⟨rfl, rfl⟩)))
  go_ret2
  have e1 : ((secN x : Nat) : Int) = 1 + (r : Int) := by rw [HN.out]; omega
  exact ⟨B1, d1, by rw [e1]; rfl, H1.out.2.1, H1.out.2.2⟩
theorem ref_number7 {y : List UInt8} {m : Nat} {A : Option Addr} {n c : Nat} {w : World} (hy : (y.take 7).length = 7) (hm : numL (y.take 7) = m) (hc : 7 ≤ c) (hs : SeesP w (· < w.heap.size) A (Us y)) (hmb : m < 72057594037927936) :
    Calls Tryd.prog 22 #[.slice A n c, .int .i64 1073741788] w fun e w' => e = .returned (.int .i64 ((m % 1073741788 : Nat) : Int)) ∧ w = w' := by
  have H := Lib.hid (show _ ∧ _ ∧ _ from ⟨hy, hm, hs⟩)
  obtain ⟨r, hr⟩ : ∃ r, r = m % 1073741788 := ⟨_, rfl⟩
  have hri : (m : Int) % 1073741788 = (r : Int) := by omega
  rw [← hr]
  clear hy hm hs hr
  go_enter Tryd.func22, Tryd.ntmps22
  go_wp2_with (go_at_call 29; ((with_reducible refine (ref_num7 H.out.1 H.out.2.1 (H.out.2.2.first 7)).mono ?_); rintro e w2 ⟨rfl, rfl⟩))
  go_ret
  exact ⟨by rw [← hri]; rfl, rfl⟩
set_option maxHeartbeats 400000 in
theorem ref_secret_ok {x : List UInt8} {A : Option Addr} {a c : Nat} {w : World} (hx : x.length = a) (hl : a ≤ 140737488351300) (ha : A = none → c = 0) (hs : SeesP w (· < w.heap.size) A (Us x)) (ht : TabR w) :
    Calls Tryd.prog 14 #[.slice A a c] w (GivesK w (secN x) (nextL x)) := by
  obtain ⟨m, hm⟩ : ∃ m, numL ((drawL x 8).take 7) = m := ⟨_, rfl⟩
  have hmb : m < 72057594037927936 := by rw [← hm]; exact num7_lt (take7_len x)
  obtain ⟨r, hr⟩ : ∃ r, r = m % 1073741788 := ⟨_, rfl⟩
  have hrb : r < 1073741788 := by omega
  have HN := Lib.hid (show secN x = 1 + r from by rw [secN, hm, hr])
  have H := Lib.hid (show _ ∧ _ ∧ _ ∧ _ ∧ _ ∧ _ ∧ _ from ⟨hx, hl, ha, hs, ht, hm, hr⟩)
  clear hx hl ha hs ht hm hr
  go_enter Tryd.func14, Tryd.ntmps14
  go_wp2_with (first
    | (go_at_call 12; ((with_reducible refine (ref_draw_8 H.out.1 H.out.2.1 H.out.2.2.1 H.out.2.2.2.1 H.out.2.2.2.2.1).mono ?_); rintro e w1 ⟨A1, c1, B1, d1, rfl, l1, s1, n1, b1⟩); have H1 := Lib.hid (show _ ∧ _ ∧ _ ∧ 7 ≤ c1 from ⟨s1, n1, b1, by omega⟩); clear s1 n1 b1)
    | (go_at_call 22; ((with_reducible refine (ref_number7 (take7_len x) H.out.2.2.2.2.2.1 H1.out.2.2.2 H1.out.1 hmb).mono ?_); rintro e w2 ⟨rfl, rfl⟩); rw [← H.out.2.2.2.2.2.2]))
  go_ret2
  have e1 : ((secN x : Nat) : Int) = 1 + (r : Int) := by rw [HN.out]; omega
  exact ⟨B1, d1, by rw [e1]; rfl, H1.out.2.1, H1.out.2.2.1⟩

theorem draw_40 {A : Option Addr} {c : Nat} {w : World} (hs : SeesP w (· < w.heap.size) A (Us [1])) (ht : TabA w) :
    Calls Tryd.prog 11 #[.slice A 1 c, .int .i64 40] w (GivesD w 40 32 (drawL [1] 40) (nextL [1]) 0) := draw_yes rfl (by decide) (by decide) hs ht
theorem awake (w : World) (ht : TabA w) : Calls Tryd.prog 9 #[] w fun e w' => e = .returned (.bool true) ∧ Below w.heap.size w w' := by
  have H := Lib.hid ht
  clear ht
  go_enter Tryd.func9, Tryd.ntmps9
  go_wp2_with (go_at_call 11; ((with_reducible refine (draw_40 sees_one (H.out.below (below_al w _))).mono ?_); rintro e w1 ⟨A1, c1, B1, d1, rfl, l1, s1, n1, b1⟩); have H1 := Lib.hid (below_on (below_al w _) b1); clear s1 n1 b1)
  go_ret
  exact ⟨rfl, H1.out⟩
theorem same_n {A1 A2 : Option Addr} {c1 c2 n : Nat} {x : List UInt8} {w : World} (hn : x.length = n) (hl : n ≤ 140737488351300) (h1 : SeesP w (· < w.heap.size) A1 (Us x)) (h2 : SeesP w (· < w.heap.size) A2 (Us x)) :
    Calls Tryd.prog 10 #[.slice A1 n c1, .slice A2 n c2] w fun e w' => e = .returned (.bool true) ∧ Below w.heap.size w w' := by
  subst hn
  exact ref_same_yes A1 A2 c1 c2 x w (SeesP.iff_sees.1 h1) (SeesP.iff_sees.1 h2) (by unfold maxLen; omega)
theorem keyB_len (x : List UInt8) (u : Int) : (keyB x u).length = keyN u := by
  unfold keyB keyN
  split
  · rfl
  · exact keyL_len _ _
theorem keyN_lim (u : Int) : keyN u ≤ 140737488351300 := by unfold keyN; split <;> decide
theorem drB_len (x : List UInt8) (n : Int) : (drB x n).length = drN n := by
  unfold drB drN
  split
  · rfl
  · exact drawL_len _ _
theorem drX_len (x : List UInt8) (n : Int) : (drX x n).length = drM n := by
  unfold drX drM
  split
  · rfl
  · exact sumL_len _
theorem drN_lim (n : Int) : drN n ≤ 140737488351300 := by unfold drN; split <;> omega
theorem drM_lim (n : Int) : drM n ≤ 140737488351300 := by unfold drM; split <;> decide

end Go.Proofs.YtdjmehinifnbhaaDoor
