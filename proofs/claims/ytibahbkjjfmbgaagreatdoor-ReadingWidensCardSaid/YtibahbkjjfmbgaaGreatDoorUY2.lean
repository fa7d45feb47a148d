/-
  What is proved here: what the program's functions on single values of a zone answer, for all texts.
-/
import Derived.Test.YtibahbkjjfmbgaaGreatDoorUZp
import Derived.Test.YtibahbkjjfmbgaaGreatDoorUA5
namespace Go.Proofs.YtibahbkjjfmbgaaGreatDoor
open Go.RowKit
set_option linter.unusedVariables false
theorem below_dr2 {w w' : World} (hb : ∃ n, w' = w.drewN n) : Below w.heap.size w w' := by obtain ⟨n, rfl⟩ := hb; exact below_drewN _ _ _
theorem p_dig (s : ByteArray) (x : List UInt8) (hx : s = S x) (w : World) (hm : s.size ≤ 140737488355328) (hM : Mm w) :
 Calls Tryz.prog 96 #[.string s] w fun e w' => e = .returned (.string (S (dgL x))) ∧ Below w.heap.size w w' := by
 have H := Lib.hid (show s = S x ∧ TabW w from ⟨hx, hM.1⟩)
 clear hx hM
 go_enter Tryz.func96, Tryz.ntmps96
 go_wp2_with (go_at_call 130; ((with_reducible refine (p_digit s x H.out.1 _ hm H.out.2).mono ?_); rintro e w1 ⟨rfl, hb⟩); replace hb := below_dr2 hb; have HB := Lib.hid hb; clear hb)
 go_ret
 exact ⟨rfl, HB.out⟩
theorem p_unf (s : ByteArray) (x : List UInt8) (hx : s = S x) (w : World) (hm : s.size ≤ 140737488355328) :
 Calls Tryz.prog 98 #[.string s] w fun e w' => e = .returned (.string (S (trimT x))) ∧ w' = w := by
 have H := Lib.hid hx
 clear hx
 go_enter Tryz.func98, Tryz.ntmps98
 go_wp2_with (go_at_call 131; ((with_reducible refine (p_trim s x H.out _ hm).mono ?_); rintro e w' ⟨rfl, rfl⟩))
 go_ret
 exact ⟨rfl, rfl⟩
def hasB (c : UInt8) (x : List UInt8) : Bool := decide (0 ≤ Lib.indexByte x c)
theorem hasB_no {c : UInt8} {x : List UInt8} (h : hasB c x = false) : ∀ i, i < x.length → cB x i ≠ (c.toNat : Int) := by
 intro i hi he
 have h1 : ¬ 0 ≤ Lib.indexByte x c := by simpa [hasB] using h
 have h2 := Lib.indexByte_ge x c
 have h3 := Lib.indexByte_none (show Lib.indexByte x c = -1 by omega) i
 apply h3
 rw [cB_get hi] at he
 rw [List.getElem?_eq_getElem hi]
 congr 1
 exact UInt8.toNat_inj.1 (by omega)
theorem hasB_yes {c : UInt8} {x : List UInt8} (h : hasB c x = true) : ∃ i, i < x.length ∧ cB x i = (c.toNat : Int) := by
 have h1 : 0 ≤ Lib.indexByte x c := by simpa [hasB] using h
 obtain ⟨o, ho⟩ := Int.eq_ofNat_of_zero_le h1
 have h3 := (Lib.indexByte_some ho).1
 obtain ⟨hi, he⟩ := List.getElem?_eq_some_iff.1 h3
 exact ⟨o, hi, by rw [cB_get hi, he]⟩
theorem letters_name {x : List UInt8} (h : lettersB x = true) : nameL x = true := by
 unfold lettersB at h
 exact nameL_good fun k hk => okP_let (of_decide_eq_true h k hk)
theorem letters_of {x : List UInt8} (hn : nameL x = true) (hs : hasB 32 x = false) : lettersB x = true := by
 unfold lettersB
 apply decide_eq_true
 intro i hi
 have h1 := nameL_at hn i hi
 unfold okP at h1
 rw [Bool.or_eq_true] at h1
 rcases h1 with h1 | h1
 · exact h1
 · unfold gapL at h1
   exact absurd (of_decide_eq_true h1).1 (hasB_no hs i hi)
theorem letters_no {x : List UInt8} (h : nameL x = false ∨ hasB 32 x = true) : lettersB x = false := by
 rcases hl : lettersB x with _ | _
 · rfl
 · rcases h with h | h
   · rw [letters_name hl] at h; exact absurd h (by decide)
   · obtain ⟨i, hi, he⟩ := hasB_yes h
     unfold lettersB at hl
     have := of_decide_eq_true hl i hi
     rw [he] at this
     exact absurd this (by decide)
theorem p_is_code (s : ByteArray) (x : List UInt8) (hx : s = S x) (n : Nat) (w : World) (hm : s.size ≤ 140737488355328) :
 Calls Tryz.prog 101 #[.string s, .int .i64 n] w fun e w' => e = .returned (.bool (codeB x n)) ∧ w' = w := by
 have hl : s.size = x.length := by rw [hx, S_size]
 have HX := Lib.hid hx
 have HC := Lib.hid (sh_strings_Contains_one s 32)
 have hd : s.data.toList = x := by rw [hx, S_data]
 rw [hd] at HC
 have HN := Lib.hid (fun w => p_name s x hx w hm)
 by_cases h1 : (1 : Int) ≤ (s.size : Int)
 ·
  by_cases h2 : (s.size : Int) ≤ (n : Int)
  ·
   have hc : codeB x n = lettersB x := by
    unfold codeB
    rw [decide_eq_true (show 1 ≤ x.length ∧ x.length ≤ n by omega), Bool.true_and]
   rw [hc]
   clear hc hl hd hx
   rcases hn : nameL x with _ | _
   · rw [letters_no (.inl hn)]
     have H1 := Lib.hid hn
     clear hn
     go_enter Tryz.func101, Tryz.ntmps101
     go_wp2_with (go_at_call 103; ((with_reducible refine (HN.out _).mono ?_); rintro e w' ⟨rfl, hw⟩; rw [hw, H1.out]; clear hw))
     go_ret
     exact ⟨rfl, rfl⟩
   ·
    have H1 := Lib.hid hn
    rcases hs : hasB 32 x with _ | _
    · rw [letters_of hn hs]
      have H2 := Lib.hid (show decide (0 ≤ Lib.indexByte x 32) = false from hs)
      clear hn hs
      go_enter Tryz.func101, Tryz.ntmps101
      go_wp2_with (first
       | (go_at_call 103; ((with_reducible refine (HN.out _).mono ?_); rintro e w' ⟨rfl, hw⟩; rw [hw, H1.out]; clear hw))
       | (go_at_call 135; ((with_reducible refine (HC.out _).mono ?_); rintro e w' ⟨rfl, hw⟩; rw [hw, H2.out]; clear hw)))
      go_ret
      exact ⟨rfl, rfl⟩
    · rw [letters_no (.inr hs)]
      have H2 := Lib.hid (show decide (0 ≤ Lib.indexByte x 32) = true from hs)
      clear hn hs
      go_enter Tryz.func101, Tryz.ntmps101
      go_wp2_with (first
       | (go_at_call 103; ((with_reducible refine (HN.out _).mono ?_); rintro e w' ⟨rfl, hw⟩; rw [hw, H1.out]; clear hw))
       | (go_at_call 135; ((with_reducible refine (HC.out _).mono ?_); rintro e w' ⟨rfl, hw⟩; rw [hw, H2.out]; clear hw)))
      go_ret
      exact ⟨rfl, rfl⟩
  · have hc : codeB x n = false := by
     unfold codeB
     rw [decide_eq_false (show ¬ (1 ≤ x.length ∧ x.length ≤ n) by omega), Bool.false_and]
    rw [hc]
    clear hc hl hd hx
    go_enter Tryz.func101, Tryz.ntmps101
    go_wp2_with fail
    go_ret
    exact ⟨rfl, rfl⟩
 · have hc : codeB x n = false := by
    unfold codeB
    rw [decide_eq_false (show ¬ (1 ≤ x.length ∧ x.length ≤ n) by omega), Bool.false_and]
   rw [hc]
   clear hc hl hd hx
   go_enter Tryz.func101, Tryz.ntmps101
   go_wp2_with fail
   go_ret
   exact ⟨rfl, rfl⟩
theorem p_surname (s : ByteArray) (x : List UInt8) (hx : s = S x) (w : World) (hm : s.size ≤ 140737488355328) :
 Calls Tryz.prog 102 #[.string s] w fun e w' => e = .returned (.bool (decide (x ≠ []) && nameL x)) ∧ w' = w := by
 by_cases h : x = []
 · have he := s_nil hx h
   have hv : (decide (x ≠ []) && nameL x) = false := by simp [h]
   rw [hv]
   clear hv h hx
   go_enter Tryz.func102, Tryz.ntmps102
   go_wp2_with fail
   go_ret
   exact ⟨rfl, rfl⟩
 · have he := s_ne hx h
   have hv : (decide (x ≠ []) && nameL x) = nameL x := by simp [h]
   rw [hv]
   have HN := Lib.hid (fun w => p_name s x hx w hm)
   clear hv h hx
   go_enter Tryz.func102, Tryz.ntmps102
   go_wp2_with (go_at_call 103; ((with_reducible refine (HN.out _).mono ?_); rintro e w' ⟨rfl, hw⟩; rw [hw]; clear hw))
   go_ret
   exact ⟨rfl, rfl⟩
theorem noFill_of {x : List UInt8} (h : hasB 60 x = false) : noFill x = true := by
 unfold noFill; exact decide_eq_true fun i hi => hasB_no h i hi
theorem noFill_no {x : List UInt8} (h : hasB 60 x = true) : noFill x = false := by
 obtain ⟨i, hi, he⟩ := hasB_yes h
 unfold noFill
 exact decide_eq_false fun hh => hh i hi he
theorem p_number (s : ByteArray) (x : List UInt8) (hx : s = S x) (w : World) (hm : s.size ≤ 140737488355328) :
 Calls Tryz.prog 104 #[.string s] w fun e w' => e = .returned (.bool (decide (x ≠ []) && plainB x)) ∧ w' = w := by
 by_cases h : x = []
 · have he := s_nil hx h
   have hv : (decide (x ≠ []) && plainB x) = false := by simp [h]
   rw [hv]
   clear hv h hx
   go_enter Tryz.func104, Tryz.ntmps104
   go_wp2_with fail
   go_ret
   exact ⟨rfl, rfl⟩
 ·
  have he := s_ne hx h
  have hv : (decide (x ≠ []) && plainB x) = (noFill x && validL x) := by unfold plainB; simp [h]
  rw [hv]
  have HN := Lib.hid (fun w => p_valid s x hx w (by unfold maxLen; omega))
  have HC := Lib.hid (sh_strings_Contains_one s 60)
  have hd : s.data.toList = x := by rw [hx, S_data]
  rw [hd] at HC
  clear hv h hd hx
  rcases hn : validL x with _ | _
  · rw [Bool.and_false]
    have H1 := Lib.hid hn
    clear hn
    go_enter Tryz.func104, Tryz.ntmps104
    go_wp2_with (go_at_call 37; ((with_reducible refine (HN.out _).mono ?_); rintro e w' ⟨rfl, hw⟩; rw [hw, H1.out]; clear hw))
    go_ret
    exact ⟨rfl, rfl⟩
  ·
   have H1 := Lib.hid hn
   rw [Bool.and_true]
   rcases hs : hasB 60 x with _ | _
   · rw [noFill_of hs]
     have H2 := Lib.hid (show decide (0 ≤ Lib.indexByte x 60) = false from hs)
     clear hn hs
     go_enter Tryz.func104, Tryz.ntmps104
     go_wp2_with (first
      | (go_at_call 37; ((with_reducible refine (HN.out _).mono ?_); rintro e w' ⟨rfl, hw⟩; rw [hw, H1.out]; clear hw))
      | (go_at_call 135; ((with_reducible refine (HC.out _).mono ?_); rintro e w' ⟨rfl, hw⟩; rw [hw, H2.out]; clear hw)))
     go_ret
     exact ⟨rfl, rfl⟩
   · rw [noFill_no hs]
     have H2 := Lib.hid (show decide (0 ≤ Lib.indexByte x 60) = true from hs)
     clear hn hs
     go_enter Tryz.func104, Tryz.ntmps104
     go_wp2_with (first
      | (go_at_call 37; ((with_reducible refine (HN.out _).mono ?_); rintro e w' ⟨rfl, hw⟩; rw [hw, H1.out]; clear hw))
      | (go_at_call 135; ((with_reducible refine (HC.out _).mono ?_); rintro e w' ⟨rfl, hw⟩; rw [hw, H2.out]; clear hw)))
     go_ret
     exact ⟨rfl, rfl⟩
theorem S_beq {s : ByteArray} {x : List UInt8} (hx : s = S x) (y : List UInt8) : (s.toList == y) = (x == y) := by rw [hx, S_toList]
theorem p_sex (s : ByteArray) (x : List UInt8) (hx : s = S x) (w : World) :
 Calls Tryz.prog 106 #[.string s] w fun e w' => e = .returned (.bool (sexB x)) ∧ w' = w := by
 by_cases h1 : x = [77]
 · have e1 : (s.toList == [77]) = true := by rw [S_beq hx, h1]; rfl
   have hv : sexB x = true := by unfold sexB; exact decide_eq_true (.inl h1)
   rw [hv]
   clear hv h1 hx
   go_enter Tryz.func106, Tryz.ntmps106
   go_wp2_with fail
   go_ret
   exact ⟨rfl, rfl⟩
 ·
  have e1 : (s.toList == [77]) = false := by rw [S_beq hx]; simpa using h1
  by_cases h2 : x = [70]
  · have e2 : (s.toList == [70]) = true := by rw [S_beq hx, h2]; rfl
    have hv : sexB x = true := by unfold sexB; exact decide_eq_true (.inr (.inl h2))
    rw [hv]
    clear hv h1 h2 hx
    go_enter Tryz.func106, Tryz.ntmps106
    go_wp2_with fail
    go_ret
    exact ⟨rfl, rfl⟩
  · have e2 : (s.toList == [70]) = false := by rw [S_beq hx]; simpa using h2
    have e3 : (s.toList == [60]) = sexB x := by rw [S_beq hx]; unfold sexB; rw [Bool.eq_iff_iff]; simp [h1, h2]
    clear h1 h2 hx
    go_enter Tryz.func106, Tryz.ntmps106
    go_wp2_with fail
    go_ret
    exact ⟨rfl, rfl⟩
theorem p_expiry (s : ByteArray) (x : List UInt8) (hx : s = S x) (w : World) (hm : s.size ≤ 140737488355328) (hM : Mm w) :
 Calls Tryz.prog 107 #[.string s] w fun e w' => e = .returned (.bool (expB x)) ∧ Below w.heap.size w w' := by
 have H := Lib.hid (show Tab w from hM.2.1)
 have HE := Lib.hid (show expB x = decide (psE s 2000 = 0) by unfold expB; rw [hx])
 have hm2 : s.size ≤ maxLen := by unfold maxLen; omega
 clear hx hM
 go_enter Tryz.func107, Tryz.ntmps107
 go_wp2_with (go_at_call 137; ((with_reducible refine (day_parse s 2000 _ H.out hm2).mono ?_); rintro e w1 ⟨rfl, hb⟩); have HB := Lib.hid hb; clear hb; generalize psE s 2000 = pe at HE; generalize psV s 2000 = pv)
 go_ret
 exact ⟨by rw [HE.out]; first | rfl | (congr 1; simp), HB.out⟩
theorem pre_60 {x : List UInt8} : Lib.hasPrefix x [60] = decide (x ≠ [] ∧ cB x 0 = 60) := by
 rcases x with _ | ⟨a, r⟩
 · rfl
 · by_cases h : a = 60
   · subst h
     have : cB (60 :: r) 0 = 60 := rfl
     simp [Lib.hasPrefix, List.isPrefixOf, this]
   · have h2 : cB (a :: r) 0 ≠ 60 := by
      intro e
      apply h
      have : (a.toNat : Int) = 60 := e
      exact UInt8.toNat_inj.1 (by show a.toNat = 60; omega)
     have h3 : (60 == a) = false := by simpa using fun e => h e.symm
     simp [Lib.hasPrefix, List.isPrefixOf, h2, h3]
theorem suf_60 {x : List UInt8} : Lib.hasSuffix x [60] = decide (x ≠ [] ∧ cB x (x.length - 1) = 60) := by
 have e : Lib.hasSuffix x [60] = Lib.hasPrefix x.reverse [60] := rfl
 rw [e, pre_60]
 congr 1
 rcases x with _ | ⟨a, r⟩
 · simp
 · have : cB (a :: r).reverse 0 = cB (a :: r) ((a :: r).length - 1) := by
    unfold cB
    rw [List.getD_eq_getElem?_getD, List.getD_eq_getElem?_getD, List.getElem?_reverse (by simp)]
    simp
   rw [this]
   simp
theorem p_add (s : ByteArray) (x : List UInt8) (hx : s = S x) (w : World) (hm : s.size ≤ 140737488355328) :
 Calls Tryz.prog 108 #[.string s] w fun e w' => e = .returned (.bool (extraB x)) ∧ w' = w := by
 have HN := Lib.hid (fun w => p_valid s x hx w (by unfold maxLen; omega))
 have HP := Lib.hid (sh_strings_HasPrefix s ⟨#[60]⟩)
 have HS := Lib.hid (fun w => sh_strings_HasSuffix s ⟨#[60]⟩ w (by omega))
 have hd : s.data.toList = x := by rw [hx, S_data]
 rw [hd] at HP HS
 rw [show (⟨#[60]⟩ : ByteArray).data.toList = [60] from rfl] at HP HS
 rw [pre_60] at HP
 rw [suf_60] at HS
 clear hd hx
 rcases hn : validL x with _ | _
 · have hv : extraB x = false := by unfold extraB; rw [hn, Bool.false_and]
   rw [hv]
   have H1 := Lib.hid hn
   clear hn hv
   go_enter Tryz.func108, Tryz.ntmps108
   go_wp2_with (go_at_call 37; ((with_reducible refine (HN.out _).mono ?_); rintro e w' ⟨rfl, hw⟩; rw [hw, H1.out]; clear hw))
   go_ret
   exact ⟨rfl, rfl⟩
 ·
  have H1 := Lib.hid hn
  by_cases h1 : x ≠ [] ∧ cB x 0 = 60
  · have hv : extraB x = false := by
     unfold extraB
     rw [hn, Bool.true_and]
     exact decide_eq_false fun h => h.elim h1.1 fun h => h.1 h1.2
    rw [hv]
    have H2 := Lib.hid (decide_eq_true h1)
    clear hn hv h1
    go_enter Tryz.func108, Tryz.ntmps108
    go_wp2_with (first
     | (go_at_call 37; ((with_reducible refine (HN.out _).mono ?_); rintro e w' ⟨rfl, hw⟩; rw [hw, H1.out]; clear hw))
     | (go_at_call 138; ((with_reducible refine (HP.out _).mono ?_); rintro e w' ⟨rfl, hw⟩; rw [hw, H2.out]; clear hw)))
    go_ret
    exact ⟨rfl, rfl⟩
  ·
   have H2 := Lib.hid (decide_eq_false h1)
   by_cases h2 : x ≠ [] ∧ cB x (x.length - 1) = 60
   ·
    have hv : extraB x = false := by
     unfold extraB
     rw [hn, Bool.true_and]
     exact decide_eq_false fun h => h.elim h2.1 fun h => h.2 h2.2
    rw [hv]
    have H3 := Lib.hid (decide_eq_true h2)
    clear hn hv h1 h2
    go_enter Tryz.func108, Tryz.ntmps108
    go_wp2_with (first
     | (go_at_call 37; ((with_reducible refine (HN.out _).mono ?_); rintro e w' ⟨rfl, hw⟩; rw [hw, H1.out]; clear hw))
     | (go_at_call 138; ((with_reducible refine (HP.out _).mono ?_); rintro e w' ⟨rfl, hw⟩; rw [hw, H2.out]; clear hw))
     | (go_at_call 139; ((with_reducible refine (HS.out _).mono ?_); rintro e w' ⟨rfl, hw⟩; rw [hw, H3.out]; clear hw)))
    go_ret
    exact ⟨rfl, rfl⟩
   ·
    have hv : extraB x = true := by
     unfold extraB
     rw [hn, Bool.true_and]
     refine decide_eq_true ?_
     by_cases h0 : x = []
     · exact .inl h0
     · exact .inr ⟨fun e => h1 ⟨h0, e⟩, fun e => h2 ⟨h0, e⟩⟩
    rw [hv]
    have H3 := Lib.hid (decide_eq_false h2)
    clear hn hv h1 h2
    go_enter Tryz.func108, Tryz.ntmps108
    go_wp2_with (first
     | (go_at_call 37; ((with_reducible refine (HN.out _).mono ?_); rintro e w' ⟨rfl, hw⟩; rw [hw, H1.out]; clear hw))
     | (go_at_call 138; ((with_reducible refine (HP.out _).mono ?_); rintro e w' ⟨rfl, hw⟩; rw [hw, H2.out]; clear hw))
     | (go_at_call 139; ((with_reducible refine (HS.out _).mono ?_); rintro e w' ⟨rfl, hw⟩; rw [hw, H3.out]; clear hw)))
    go_ret
    exact ⟨rfl, rfl⟩
theorem dgL_len (x : List UInt8) : (S (dgL x)).size ≤ 1 := by rw [S_size]; unfold dgL; split <;> simp
def dvB (x : List UInt8) : List UInt8 := if 9 < x.length then [60] else dgL x
def dvC (x y : List UInt8) : List UInt8 := if 9 < x.length then x.drop 9 ++ dgL x ++ [60] ++ y else y
set_option maxHeartbeats 800000 in
theorem p_divide (s t : ByteArray) (x y : List UInt8) (hx : s = S x) (hy : t = S y) (w : World) (hm : s.size ≤ 140737488355328) (hm2 : t.size ≤ 140737488355328) (hM : Mm w) :
 Calls Tryz.prog 140 #[.string s, .string t] w fun e w' => e = .returned (.tuple #[.string (S (x.take 9)), .string (S (dvB x)), .string (S (dvC x y))]) ∧ Below w.heap.size w w' := by
 have hl : s.size = x.length := by rw [hx, S_size]
 have HX := Lib.hid hx
 have HM := Lib.hid hM
 by_cases h : s.size ≤ 9
 · have e1 : x.take 9 = x := List.take_of_length_le (by omega)
   have e2 : dvB x = dgL x := by unfold dvB; rw [if_neg (by omega)]
   have e3 : dvC x y = y := by unfold dvC; rw [if_neg (by omega)]
   rw [e1, e2, e3, ← hx, ← hy]
   clear e1 e2 e3 hl hM hx hy
   go_enter Tryz.func140, Tryz.ntmps140
   go_wp2_with (go_at_call 96; ((with_reducible refine (p_dig s x HX.out _ hm HM.out).mono ?_); rintro e w1 ⟨rfl, hb⟩); have HB := Lib.hid hb; clear hb)
   go_ret3
   exact ⟨rfl, HB.out⟩
 ·
  have h2 : 9 < s.size := by omega
  have hE := Lib.hid (show s.extract 0 9 = S (x.take 9) ∧ dvB x = [60] ∧ s.extract 9 s.size ++ S (dgL x) ++ ⟨#[60]⟩ ++ t = S (dvC x y) from ⟨by rw [hx, S_extract]; rfl, by unfold dvB; rw [if_pos (by omega)], by
   unfold dvC
   rw [if_pos (by omega), hl, hx, hy, S_extract]
   show S _ ++ S _ ++ S [60] ++ S _ = _
   rw [S_append, S_append, S_append, List.take_of_length_le (by simp)]⟩)
  rw [hE.out.2.1]
  have hd1 := dgL_len x
  clear h hl hM hx hy
  go_enter Tryz.func140, Tryz.ntmps140
  go_wp2_with fail
  have q1 := quiet_up (w := w) fun w' hb => p_dig s x HX.out w' hm (HM.out.on hb)
  refine wp_region_quiet_below (by kernel_rfl) (by kernel_rfl) ?_
  repeat (first | go_big_quiet_skip | (go_big_quiet_want; go_big_quiet_op; go_big_quiet_on) | quiet_step (first | with_reducible exact q1 _ _))
  refine wpQuiet_nil ?_
  intro w3 hw3
  have H3 := Lib.hid (below_of_regrown hw3)
  clear hw3 q1
  go_wp2
  go_ret3
  exact ⟨by rw [← hE.out.1, ← hE.out.2.2]; rfl, H3.out⟩
theorem kf_le (x : List UInt8) : kf x ≤ x.length := by
 unfold kf
 exact (List.takeWhile_sublist _).length_le
theorem kf_before : ∀ (x : List UInt8) (i : Nat), i < kf x → cB x i ≠ 60
 | [], i, h => by simp [kf] at h
 | a :: r, i, h => by
  unfold kf at h
  by_cases ha : a = 60
  · subst ha; simp at h
  · rw [List.takeWhile_cons_of_pos (by simpa using ha)] at h
    rcases i with _ | i
    · intro e
      exact ha (UInt8.toNat_inj.1 (by have : (a.toNat : Int) = 60 := e; show a.toNat = 60; omega))
    · exact kf_before r i (by unfold kf; simp only [List.length_cons] at h; omega)
theorem kf_at : ∀ (x : List UInt8), kf x < x.length → cB x (kf x) = 60
 | [], h => by simp [kf] at h
 | a :: r, h => by
  by_cases ha : a = 60
  · subst ha; rfl
  · have e : kf (a :: r) = kf r + 1 := by unfold kf; rw [List.takeWhile_cons_of_pos (by simpa using ha)]; rfl
    rw [e] at h ⊢
    exact kf_at r (by simp at h; omega)
theorem occ_one (t : List UInt8) (i : Nat) : Lib.occAt t [60] i = true ↔ cB t i = 60 := by
 constructor
 · intro h
   have h2 : i + 1 ≤ t.length := by
    rcases Lib.occAt_room h with h2 | h2
    · exact h2
    · cases h2
   rw [Lib.occAt_iff_take t [60] i h2] at h
   have h3 : (t.drop i).take 1 = [60] := by simpa using h
   have e0 : cB ((t.drop i).take 1) 0 = 60 := by rw [h3]; rfl
   rw [cB_take (by omega), cB_drop] at e0
   exact e0
 · intro h0
   have l1 := cB_in h0
   rw [Lib.occAt_iff_take t [60] i (by simp; omega)]
   rw [cB_get l1] at h0
   have e0 : t[i] = 60 := UInt8.toNat_inj.1 (Int.ofNat_inj.1 h0)
   rw [List.drop_eq_getElem_cons l1, e0]
   rfl
theorem cut1_none {t : List UInt8} (h : kf t = t.length) : Lib.cut t [60] = (t, [], false) := by
 unfold Lib.cut
 rw [Lib.index_none (fun j _ => by
  rcases hb : Lib.occAt t [60] j with _ | _
  · rfl
  · have h0 := (occ_one t j).1 hb
    exact absurd h0 (kf_before t j (by rw [h]; exact cB_in h0)))]
 rfl
theorem cut1_some {t : List UInt8} (h : kf t < t.length) : Lib.cut t [60] = (t.take (kf t), t.drop (kf t + 1), true) := by
 unfold Lib.cut
 rw [Lib.index_first (i := kf t) (by omega) ((occ_one t _).2 (kf_at t h)) (fun j hj => by
  rcases hb : Lib.occAt t [60] j with _ | _
  · rfl
  · exact absurd ((occ_one t j).1 hb) (kf_before t j hj))]
 simp
theorem p_cut1 (s : ByteArray) (x : List UInt8) (hx : s = S x) (w : World) (hs : s.size ≤ 64) (hM : MaxC w) :
 Calls Tryz.prog 132 #[.string s, .string ⟨#[60]⟩] w fun e w' => e = .returned (.tuple #[.string (S (Lib.cut x [60]).1), .string (S (Lib.cut x [60]).2.1), .bool (Lib.cut x [60]).2.2]) ∧ Below w.heap.size w w' := by
 obtain ⟨_, m, hm⟩ := hM
 have h := sh_strings_Cut s ⟨#[60]⟩ m w (by omega) hm
 rw [show s.data.toList = x by rw [hx, S_data]] at h
 exact h.mono fun e w' ⟨he, hb⟩ => ⟨he, below_dr2 hb⟩
theorem join_facts {r : List UInt8} (h1 : kf r < r.length) : (S (r.take (kf r))).size = kf r := by rw [S_size, List.length_take]; omega
set_option maxHeartbeats 800000 in
theorem p_join (F D R : ByteArray) (f d r : List UInt8) (hF : F = S f) (hD : D = S d) (hR : R = S r) (w : World) (m1 : F.size ≤ 64) (m3 : R.size ≤ 64) (hM : Mm w) :
 Calls Tryz.prog 99 #[.string F, .string D, .string R] w fun e w' => e = .returned (.tuple #[.string (S (if jE d f r = 0 then jN d f r else [])), .string (S (if jE d f r = 0 then jO d r else [])), .int .i64 (jE d f r)]) ∧ Below w.heap.size w w' := by
 have hlR : R.size = r.length := by rw [hR, S_size]
 by_cases hd : d = [60]
 ·
  have e0 : (D.toList == [60]) = true := by rw [S_beq hD, hd]; rfl
  by_cases hk : kf r = r.length ∨ kf r < 2
  ·
   have hj : jE d f r = 1 := by unfold jE; rw [if_neg (by simp [hd]), if_pos hk]
   rw [hj, if_neg (by decide), if_neg (by decide)]
   rcases Nat.lt_or_ge (kf r) r.length with hlt | hge
   · have h2 : kf r < 2 := by omega
     have hc := cut1_some hlt
     obtain ⟨R1, hR1⟩ : ∃ R1, R1 = S (r.take (kf r)) := ⟨_, rfl⟩
     have hz : R1.size < 2 := by rw [hR1, join_facts hlt]; exact h2
     have H := Lib.hid (show R = S r ∧ MaxC w ∧ _ ∧ _ from ⟨hR, hM.2.2.2, hc, hR1⟩)
     clear hF hD hR hd hk hj hlt h2 hc hR1 hlR hM
     go_enter Tryz.func99, Tryz.ntmps99
     go_wp2_with (go_at_call 132; ((with_reducible refine (p_cut1 R r H.out.1 _ m3 H.out.2.1).mono ?_); rintro e w1 ⟨rfl, hb⟩); rw [H.out.2.2.1]; simp only []; rw [← H.out.2.2.2]; have HB := Lib.hid hb; clear hb)
     go_ret3
     exact ⟨rfl, HB.out⟩
   · have hc := cut1_none (t := r) (by have := kf_le r; omega)
     have H := Lib.hid (show R = S r ∧ MaxC w ∧ _ from ⟨hR, hM.2.2.2, hc⟩)
     clear hF hD hR hd hk hj hge hc hlR hM
     go_enter Tryz.func99, Tryz.ntmps99
     go_wp2_with (go_at_call 132; ((with_reducible refine (p_cut1 R r H.out.1 _ m3 H.out.2.1).mono ?_); rintro e w1 ⟨rfl, hb⟩); rw [H.out.2.2]; simp only []; have HB := Lib.hid hb; clear hb)
     go_ret3
     exact ⟨rfl, HB.out⟩
  ·
   have hlt : kf r < r.length := by have := kf_le r; omega
   have h2 : 2 ≤ kf r := by omega
   have hc := cut1_some hlt
   obtain ⟨R1, hR1⟩ : ∃ R1, R1 = S (r.take (kf r)) := ⟨_, rfl⟩
   have hz : R1.size = kf r := by rw [hR1, join_facts hlt]
   have hz2 : 2 ≤ R1.size := by omega
   have hz3 : R1.size ≤ 64 := by omega
   have hN : F ++ R1.extract 0 (R1.size - 1) = S (f ++ r.take (kf r - 1)) := by
    rw [hz, hR1, hF, S_extract, S_append, List.drop_zero, List.take_take]; congr 3; omega
   have hL : R1.extract (R1.size - 1) R1.size = S ((r.drop (kf r - 1)).take 1) := by
    rw [hz, hR1, S_extract]
    congr 1
    rw [List.drop_take, List.take_take]
    congr 1
    omega
   obtain ⟨N, hNN⟩ : ∃ N, N = F ++ R1.extract 0 (R1.size - 1) := ⟨_, rfl⟩
   have hzN : N.size ≤ 200 := by rw [hNN, ByteArray.size_append, ByteArray.size_extract]; omega
   obtain ⟨G, hG⟩ : ∃ G, G = S (dgL (f ++ r.take (kf r - 1))) := ⟨_, rfl⟩
   obtain ⟨L, hLL⟩ : ∃ L, L = R1.extract (R1.size - 1) R1.size := ⟨_, rfl⟩
   have hLx : L = S ((r.drop (kf r - 1)).take 1) := hLL.trans hL
   have hj1 : (decide ((r.drop (kf r - 1)).take 1 ≠ dgL (f ++ r.take (kf r - 1)))) = !(L.toList == G.toList) := by rw [hLx, hG, S_toList, S_toList, Bool.eq_iff_iff]; simp
   have H := Lib.hid (show R = S r ∧ MaxC w ∧ _ ∧ _ ∧ N = S (f ++ r.take (kf r - 1)) ∧ Mm w ∧ _ ∧ R1.extract (R1.size - 1) R1.size = L ∧ F ++ R1.extract 0 (R1.size - 1) = N from ⟨hR, hM.2.2.2, hc, hR1, hNN.trans hN, hM, hG, hLL.symm, hNN.symm⟩)
   have ht : (((R1.size : Int) - 1)).toNat = R1.size - 1 := by omega
   by_cases hq : (r.drop (kf r - 1)).take 1 = dgL (f ++ r.take (kf r - 1))
   ·
    have e1 : (L.toList == G.toList) = true := by simpa [hq] using hj1
    have hj : jE d f r = 0 ∧ jN d f r = f ++ r.take (kf r - 1) ∧ jO d r = trimT (r.drop (kf r + 1)) := by
     unfold jE jN jO
     rw [if_neg (by simp [hd]), if_neg hk, if_neg (by simp [hq]), if_neg (by simp [hd]), if_neg (by simp [hd])]
     exact ⟨rfl, rfl, rfl⟩
    rw [hj.1, hj.2.1, hj.2.2, if_pos rfl, if_pos rfl]
    obtain ⟨P, hP⟩ : ∃ P, P = S (r.drop (kf r + 1)) := ⟨_, rfl⟩
    have hzP : P.size ≤ 64 := by rw [hP, S_size, List.length_drop]; omega
    have HP := Lib.hid hP
    have HE := Lib.hid e1
    clear hF hD hR hd hk hj hlt h2 hc hR1 hlR hM hz hN hL hNN hG hLL hLx hj1 hq hP e1
    go_enter Tryz.func99, Tryz.ntmps99
    go_wp2_with (go_at_call 132; ((with_reducible refine (p_cut1 R r H.out.1 _ m3 H.out.2.1).mono ?_); rintro e w1 ⟨rfl, hb⟩); rw [H.out.2.2.1]; simp only []; rw [← H.out.2.2.2.1, ← HP.out]; have HB := Lib.hid hb; clear hb)
    have g5 := H.out.2.2.2.2.1
    have g6 := H.out.2.2.2.2.2.1
    have g7 := H.out.2.2.2.2.2.2.1
    have g8 := H.out.2.2.2.2.2.2.2.1
    have g9 := H.out.2.2.2.2.2.2.2.2
    rw [g9]
    have q1 := quiet_up (w := w1) fun w' hb => p_dig N _ g5 w' (by omega) ((g6.on HB.out).on hb)
    rw [← g7] at q1
    obtain ⟨la, hla⟩ : ∃ la : Int, la = (R1.size : Int) - 1 := ⟨_, rfl⟩
    have HL : Hid (R1.extract la.toNat R1.size = L) := Lib.hid (by rw [hla, ht]; exact g8)
    rw [← hla]
    have c2 : 0 ≤ la := by omega
    have c3 : la ≤ (R1.size : Int) := by omega
    clear hla
    clear g5 g6 g7 g8 g9
    refine wp_region_quiet_below (by kernel_rfl) (by kernel_rfl) ?_
    repeat (first | go_big_quiet_skip | (go_big_quiet_want; go_big_quiet_op; go_big_quiet_on) | quiet_step (first | with_reducible exact q1 _ _))
    refine wpQuiet_nil ?_
    intro w3 hw3
    have H3 := Lib.hid (below_on HB.out (below_of_regrown hw3))
    clear hw3 q1
    rw [HL.out, HE.out]
    simp only [Bool.not_true]
    go_wp2_with (go_at_call 98; ((with_reducible refine (p_unf P _ HP.out _ (by omega)).mono ?_); rintro e w' ⟨rfl, rfl⟩))
    go_ret3
    exact ⟨by rw [← H.out.2.2.2.2.1]; rfl, H3.out⟩
   ·
    have e1 : (L.toList == G.toList) = false := by simpa [hq] using hj1
    have hj : jE d f r = 13 := by
     unfold jE
     rw [if_neg (by simp [hd]), if_neg hk, if_pos hq]
    rw [hj, if_neg (by decide), if_neg (by decide)]
    have HE := Lib.hid e1
    clear hF hD hR hd hk hj hlt h2 hc hR1 hlR hM hz hN hL hNN hG hLL hLx hj1 hq e1
    go_enter Tryz.func99, Tryz.ntmps99
    go_wp2_with (go_at_call 132; ((with_reducible refine (p_cut1 R r H.out.1 _ m3 H.out.2.1).mono ?_); rintro e w1 ⟨rfl, hb⟩); rw [H.out.2.2.1]; simp only []; rw [← H.out.2.2.2.1]; generalize S (r.drop (kf r + 1)) = P; have HB := Lib.hid hb; clear hb)
    have g5 := H.out.2.2.2.2.1
    have g6 := H.out.2.2.2.2.2.1
    have g7 := H.out.2.2.2.2.2.2.1
    have g8 := H.out.2.2.2.2.2.2.2.1
    have g9 := H.out.2.2.2.2.2.2.2.2
    rw [g9]
    have q1 := quiet_up (w := w1) fun w' hb => p_dig N _ g5 w' (by omega) ((g6.on HB.out).on hb)
    rw [← g7] at q1
    obtain ⟨la, hla⟩ : ∃ la : Int, la = (R1.size : Int) - 1 := ⟨_, rfl⟩
    have HL : Hid (R1.extract la.toNat R1.size = L) := Lib.hid (by rw [hla, ht]; exact g8)
    rw [← hla]
    have c2 : 0 ≤ la := by omega
    have c3 : la ≤ (R1.size : Int) := by omega
    clear hla
    clear g5 g6 g7 g8 g9
    refine wp_region_quiet_below (by kernel_rfl) (by kernel_rfl) ?_
    repeat (first | go_big_quiet_skip | (go_big_quiet_want; go_big_quiet_op; go_big_quiet_on) | quiet_step (first | with_reducible exact q1 _ _))
    refine wpQuiet_nil ?_
    intro w3 hw3
    have H3 := Lib.hid (below_on HB.out (below_of_regrown hw3))
    clear hw3 q1
    rw [HL.out, HE.out]
    simp only [Bool.not_false]
    go_wp2_with fail
    go_ret3
    exact ⟨rfl, H3.out⟩
 ·
  have e0 : (D.toList == [60]) = false := by rw [S_beq hD]; simpa using hd
  have hj : jE d f r = 0 ∧ jN d f r = trimT f ∧ jO d r = trimT r := by
   unfold jE jN jO
   rw [if_pos hd, if_pos hd, if_pos hd]
   exact ⟨rfl, rfl, rfl⟩
  rw [hj.1, hj.2.1, hj.2.2, if_pos rfl, if_pos rfl]
  have H := Lib.hid (show _ ∧ _ from ⟨hF, hR⟩)
  clear hF hD hR hd hj hlR hM
  go_enter Tryz.func99, Tryz.ntmps99
  go_wp2_with (go_at_call 98; first
   | ((with_reducible refine (p_unf F f H.out.1 _ (by omega)).mono ?_); rintro e w' ⟨rfl, rfl⟩)
   | ((with_reducible refine (p_unf R r H.out.2 _ (by omega)).mono ?_); rintro e w' ⟨rfl, rfl⟩))
  go_ret3
  exact ⟨rfl, Below.refl _ _⟩
end Go.Proofs.YtibahbkjjfmbgaaGreatDoor
