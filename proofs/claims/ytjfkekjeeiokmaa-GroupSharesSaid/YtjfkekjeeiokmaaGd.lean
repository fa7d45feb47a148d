/-
  What is proved here: what Encode and Decode return, of the program and of the reference, for all numbers and bytes; that the statements' own check 'awake' (of the eighth layer) returns true.
-/
import Derived.Test.YtjfkekjeeiokmaaGp
import Derived.Test.YtjfkekjeeiokmaaOc
import Derived.Test.YtjfkekjeeiokmaaNum
import Derived.Test.YtjfkekjeeiokmaaRsb
namespace Go.Proofs.Ytjfkekjeeiokmaa
open Go.RowKit
set_option linter.unusedVariables false

/-- a call that hands back n bytes, which are l, and a code -/
def GvB (w : World) (n : Nat) (l : List UInt8) (er : Int) (e : Ending) (w' : World) : Prop := ∃ A c, e = .returned (.tuple #[.slice A n c, .int .i64 er]) ∧ Sees w' w'.heap.size A (Us l) ∧ Below w.heap.size w w'
theorem gvB_nil (w : World) (r : Int) : GvB w 0 [] r (.returned (.tuple #[.slice none 0 0, .int .i64 r])) w := ⟨none, 0, rfl, .inl rfl, Below.refl _ _⟩
def enN (x : Int) : Nat := if elB x = true then 4 else 0
def enL (x : Int) : List UInt8 := if elB x = true then octL x.toNat 4 else []
def enE (x : Int) : Int := if elB x = true then 0 else 10
theorem en_yes {x : Int} (h : elB x = true) : enN x = 4 ∧ enL x = octL x.toNat 4 ∧ enE x = 0 := by simp [enN, enL, enE, h]
theorem en_no {x : Int} (h : elB x = false) : enN x = 0 ∧ enL x = [] ∧ enE x = 10 := by simp [enN, enL, enE, h]
theorem en_len (x : Int) : (enL x).length = enN x := by unfold enN enL; split <;> simp [octL_length]
theorem enN_le (x : Int) : enN x ≤ 4 := by unfold enN; split <;> omega
def deV (l : List UInt8) : Int := if l.length = 4 ∧ elB ((numL l : Nat) : Int) = true then ((numL l : Nat) : Int) else 0
def deE (l : List UInt8) : Int := if l.length = 4 then (if elB ((numL l : Nat) : Int) = true then 0 else 10) else 2
theorem de_yes {l : List UInt8} (h : l.length = 4) (g : elB ((numL l : Nat) : Int) = true) : deV l = ((numL l : Nat) : Int) ∧ deE l = 0 := by simp [deV, deE, h, g]
theorem de_no {l : List UInt8} (h : l.length = 4) (g : elB ((numL l : Nat) : Int) = false) : deV l = 0 ∧ deE l = 10 := by simp [deV, deE, h, g]
theorem de_size {x : List UInt8} (h : ¬ x.length = 4) : deV x = 0 ∧ deE x = 2 := by simp [deV, deE, h]
theorem numL4 {x : List UInt8} (h : x.length = 4) : numL x < 4294967296 := by
  have := numL_lt x 4 (by omega)
  rwa [List.take_of_length_le (by omega)] at this
theorem octL4 (n : Nat) : octL n 4 = [UInt8.ofNat (n / 16777216), UInt8.ofNat (n / 65536), UInt8.ofNat (n / 256), UInt8.ofNat n] := by
  have e : List.range 4 = [0, 1, 2, 3] := rfl
  simp [octL, e, octAt]
theorem numL_oct4 {n : Nat} (h : n < 4294967296) : numL (octL n 4) = n := by
  rw [octL4]
  simp only [numL, List.foldl_cons, List.foldl_nil, UInt8.toNat_ofNat']
  omega
theorem octets4 (x : Int) (w : World) (h0 : 0 ≤ x) (h : x < 2147483579) : Calls Try.prog 34 #[.int .i64 x, .int .i64 4] w (GvB w 4 (octL x.toNat 4) 0) := by
  have h := oct_oct_yes x.toNat 4 (by decide) (by omega) w
  rw [Int.toNat_of_nonneg h0] at h
  refine Calls.mono h ?_
  rintro e w' ⟨A, c, he, hs, hb⟩
  rw [octL_length] at he
  exact ⟨A, c, he, hs, hb⟩
theorem four_us (x : Int) (h0 : 0 ≤ x) (h : x < 4294967296) : Us (octL x.toNat 4) = [.int .u8 (x / 16777216), .int .u8 ((x / 65536) % 256), .int .u8 ((x / 256) % 256), .int .u8 (x % 256)] := by
  rw [octL4]
  simp only [Us, U, List.map_cons, List.map_nil, UInt8.toNat_ofNat']
  have e1 : ((x.toNat / 16777216 % 2 ^ 8 : Nat) : Int) = x / 16777216 := by omega
  have e2 : ((x.toNat / 65536 % 2 ^ 8 : Nat) : Int) = x / 65536 % 256 := by omega
  have e3 : ((x.toNat / 256 % 2 ^ 8 : Nat) : Int) = x / 256 % 256 := by omega
  have e4 : ((x.toNat % 2 ^ 8 : Nat) : Int) = x % 256 := by omega
  rw [e1, e2, e3, e4]
theorem sees_row {wr : World} {t : TypeId} {cs : List Value} {l : List UInt8} (h : Us l = cs) : Sees (wr.alloc (.cells cs.toArray t)) (wr.alloc (.cells cs.toArray t)).heap.size (some ⟨wr.heap.size, 0, none⟩) (Us l) := by
  subst h
  refine .inr ⟨wr.heap.size, 0, rfl, by simp, fun j hj => ?_⟩
  rw [Nat.zero_add, cell_of_row _ _ j _ t (0, 0) (heap_alloc_new wr _)]
  simp
theorem below_al (w : World) (o : Obj) : Below w.heap.size w (w.alloc o) := (Below.refl _ w).alloc (Nat.le_refl _) o
theorem ref_four (x : Int) (w : World) (h0 : 0 ≤ x) (h : x < 4294967296) : Calls Try.prog 35 #[.int .i64 x] w fun e w' => ∃ A c, e = .returned (.slice A 4 c) ∧ Sees w' w'.heap.size A (Us (octL x.toNat 4)) ∧ Below w.heap.size w w' := by
  have H := Lib.hid (four_us x h0 h)
  go_enter Try.func35, Try.ntmps35
  go_wp2
  go_ret
  exact ⟨_, 4, rfl, sees_row H.out, below_al _ _⟩
theorem num4 (x : List UInt8) (A : Option Addr) (n c : Nat) (w : World) (h : Sees w w.heap.size A (Us x)) (hn : x.length = n) (h4 : n = 4) :
    Calls Try.prog 36 #[.slice A n c] w fun e w' => e = .returned (.tuple #[.int .i64 ((numL x : Nat) : Int), .int .i64 0]) ∧ w = w' :=
  (oct_num A c n x w _ h hn.symm (by rw [h4]; decide)).mono fun _ _ ⟨he, hw⟩ => ⟨by
    unfold NumEnd numV numE at he
    rwa [if_pos (by omega), if_pos (by omega)] at he, hw.symm⟩
theorem rnum4 (x : List UInt8) (A : Option Addr) (n c : Nat) (w : World) (h : Sees w w.heap.size A (Us x)) (hn : x.length = n) (h4 : n = 4) :
    Calls Try.prog 37 #[.slice A n c] w fun e w' => e = .returned (.tuple #[.int .i64 ((numL x : Nat) : Int), .int .i64 0]) ∧ w = w' :=
  (ref_num A c n x w _ h hn.symm (by rw [h4]; decide)).mono fun _ _ ⟨he, hw⟩ => ⟨by
    unfold NumEnd numV numE at he
    rwa [if_pos (by omega), if_pos (by omega)] at he, hw.symm⟩
theorem grp_encode (x : Int) (w : World) : Calls Try.prog 18 #[.int .i64 x] w (GvB w (enN x) (enL x) (enE x)) := by
  by_cases hx : elB x = true
  · obtain ⟨h3, h4⟩ := elB_bd hx
    obtain ⟨v1, v2, v3⟩ := en_yes hx
    rw [v1, v2, v3]; clear v1 v2 v3
    go_enter Try.func18, Try.ntmps18
    go_wp2_with fail
    with_reducible refine (grp_element x _).mono ?_
    rintro e w' ⟨rfl, rfl⟩
    go_wp2_with fail
    with_reducible refine (octets4 x _ (by omega) h4).mono ?_
    rintro e w1 ⟨A, c, rfl, hs, hb⟩
    have HS := Lib.hid (And.intro hs hb)
    clear hs hb
    go_wp2
    go_ret2
    exact ⟨A, c, rfl, HS.out.1, HS.out.2⟩
  · have hr : elB x = false := by simpa using hx
    obtain ⟨v1, v2, v3⟩ := en_no hr
    rw [v1, v2, v3]; clear v1 v2 v3 hx
    go_enter Try.func18, Try.ntmps18
    go_wp2_with (go_at_call 16; ((with_reducible refine (grp_element x _).mono ?_); rintro e w' ⟨rfl, rfl⟩))
    go_ret2
    exact gvB_nil _ _

theorem ref_encode (x : Int) (w : World) : Calls Try.prog 19 #[.int .i64 x] w (GvB w (enN x) (enL x) (enE x)) := by
  by_cases hx : elB x = true
  · obtain ⟨h3, h4⟩ := elB_bd hx
    obtain ⟨v1, v2, v3⟩ := en_yes hx
    rw [v1, v2, v3]; clear v1 v2 v3
    go_enter Try.func19, Try.ntmps19
    go_wp2_with fail
    with_reducible refine (ref_element x _).mono ?_
    rintro e w' ⟨rfl, rfl⟩
    go_wp2_with fail
    with_reducible refine (ref_four x _ (by omega) (by omega)).mono ?_
    rintro e w1 ⟨A, c, rfl, hs, hb⟩
    have HS := Lib.hid (And.intro hs hb)
    clear hs hb
    go_wp2
    go_ret2
    exact ⟨A, c, rfl, HS.out.1, HS.out.2⟩
  · have hr : elB x = false := by simpa using hx
    obtain ⟨v1, v2, v3⟩ := en_no hr
    rw [v1, v2, v3]; clear v1 v2 v3 hx
    go_enter Try.func19, Try.ntmps19
    go_wp2_with (go_at_call 17; ((with_reducible refine (ref_element x _).mono ?_); rintro e w' ⟨rfl, rfl⟩))
    go_ret2
    exact gvB_nil _ _

theorem grp_decode (x : List UInt8) (A : Option Addr) (n c : Nat) (w : World) (h : Sees w w.heap.size A (Us x)) (hn : x.length = n) (hl : n ≤ 140737488351500) :
    Calls Try.prog 20 #[.slice A n c] w fun e w' => e = .returned (.tuple #[.int .i64 (deV x), .int .i64 (deE x)]) ∧ w = w' := by
  by_cases h4 : n = 4
  · have hd : ((n : Int) != 4) = false := by rw [h4]; rfl
    have H4 := Lib.hid (hn.trans h4)
    have HN := Lib.hid (num4 x A n c w h hn h4)
    have hb := numL4 H4.out
    clear h4 hn
    by_cases hx : elB ((numL x : Nat) : Int) = true
    · obtain ⟨v1, v2⟩ := de_yes H4.out hx
      rw [v1, v2]; clear v1 v2
      go_enter Try.func20, Try.ntmps20
      go_wp2_with fail
      with_reducible refine HN.out.mono ?_
      rintro e w' ⟨rfl, rfl⟩
      go_wp2_with (go_at_call 16; ((with_reducible refine (grp_element _ _).mono ?_); rintro e w' ⟨rfl, rfl⟩))
      go_ret2
      exact ⟨rfl, rfl⟩
    · have hr : elB ((numL x : Nat) : Int) = false := by simpa using hx
      obtain ⟨v1, v2⟩ := de_no H4.out hr
      rw [v1, v2]; clear v1 v2 hx
      go_enter Try.func20, Try.ntmps20
      go_wp2_with fail
      with_reducible refine HN.out.mono ?_
      rintro e w' ⟨rfl, rfl⟩
      go_wp2_with (go_at_call 16; ((with_reducible refine (grp_element _ _).mono ?_); rintro e w' ⟨rfl, rfl⟩))
      go_ret2
      exact ⟨rfl, rfl⟩
  · have hd : ((n : Int) != 4) = true := by simp; omega
    obtain ⟨v1, v2⟩ := de_size (x := x) (by omega)
    rw [v1, v2]; clear v1 v2 h4 hn h
    go_enter Try.func20, Try.ntmps20
    go_wp2
    go_ret2
    exact ⟨rfl, rfl⟩

theorem ref_decode (x : List UInt8) (A : Option Addr) (n c : Nat) (w : World) (h : Sees w w.heap.size A (Us x)) (hn : x.length = n) (hl : n ≤ 140737488351500) :
    Calls Try.prog 21 #[.slice A n c] w fun e w' => e = .returned (.tuple #[.int .i64 (deV x), .int .i64 (deE x)]) ∧ w = w' := by
  by_cases h4 : n = 4
  · have hd : ((n : Int) != 4) = false := by rw [h4]; rfl
    have H4 := Lib.hid (hn.trans h4)
    have HN := Lib.hid (rnum4 x A n c w h hn h4)
    have hb := numL4 H4.out
    clear h4 hn
    by_cases hx : elB ((numL x : Nat) : Int) = true
    · obtain ⟨v1, v2⟩ := de_yes H4.out hx
      rw [v1, v2]; clear v1 v2
      go_enter Try.func21, Try.ntmps21
      go_wp2_with fail
      with_reducible refine HN.out.mono ?_
      rintro e w' ⟨rfl, rfl⟩
      go_wp2_with (go_at_call 17; ((with_reducible refine (ref_element _ _).mono ?_); rintro e w' ⟨rfl, rfl⟩))
      go_ret2
      exact ⟨rfl, rfl⟩
    · have hr : elB ((numL x : Nat) : Int) = false := by simpa using hx
      obtain ⟨v1, v2⟩ := de_no H4.out hr
      rw [v1, v2]; clear v1 v2 hx
      go_enter Try.func21, Try.ntmps21
      go_wp2_with fail
      with_reducible refine HN.out.mono ?_
      rintro e w' ⟨rfl, rfl⟩
      go_wp2_with (go_at_call 17; ((with_reducible refine (ref_element _ _).mono ?_); rintro e w' ⟨rfl, rfl⟩))
      go_ret2
      exact ⟨rfl, rfl⟩
  · have hd : ((n : Int) != 4) = true := by simp; omega
    obtain ⟨v1, v2⟩ := de_size (x := x) (by omega)
    rw [v1, v2]; clear v1 v2 h4 hn h
    go_enter Try.func21, Try.ntmps21
    go_wp2
    go_ret2
    exact ⟨rfl, rfl⟩

theorem pu_three : puV 3 = 64 ∧ puE 3 = 0 := by decide +kernel
theorem el_64 : elB 64 = true := pt_el (k := 3) (by decide) (by decide)
theorem awake (w : World) : Calls Try.prog 15 #[] w fun e w' => e = .returned (.bool true) ∧ Below w.heap.size w w' := by
  have hp := grp_public 3 w
  rw [pu_three.1, pu_three.2] at hp
  have HP := Lib.hid hp
  have he := fun w => grp_encode 64 w
  obtain ⟨v1, v2, v3⟩ := en_yes el_64
  rw [v1, v2, v3] at he
  have HE := Lib.hid he
  clear hp he v1 v2 v3
  go_enter Try.func15, Try.ntmps15
  go_wp2_with fail
  with_reducible refine HP.out.mono ?_
  rintro e w' ⟨rfl, rfl⟩
  go_wp2_with fail
  with_reducible refine (HE.out _).mono ?_
  rintro e w1 ⟨A, c, rfl, hs, hb⟩
  obtain ⟨b, o, rfl, hlt, hc⟩ := hs.at_ (k := 3) (by decide)
  have hc3 : w1.cell? ⟨b, o + 3, none⟩ = some (.int .u8 64) := hc 3 (by decide)
  have HB := Lib.hid hb
  clear hc hs hb
  go_wp2
  go_ret
  exact ⟨rfl, HB.out⟩
end Go.Proofs.Ytjfkekjeeiokmaa
