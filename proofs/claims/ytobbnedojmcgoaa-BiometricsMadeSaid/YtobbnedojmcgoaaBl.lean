/-
  What is proved here: two of the laws as functions: BiometricsValid and BiometricsExact return true, whatever templates and objects they are handed.
-/
import Derived.Test.YtobbnedojmcgoaaBk
namespace Go.Proofs.Ytobbnedojmcgoaa
open Go.RowKit
set_option linter.unusedVariables false
set_option linter.unusedSimpArgs false

theorem enc_ok (l : List Tm) : (encF l).ok ∧ (encF l).size ≤ 74 := by
  unfold encF
  split
  · rename_i h
    obtain ⟨_, h8, hv⟩ := encE_ok h
    refine ⟨listF_ok fun x hx => ?_, by rw [listF_size]; omega⟩
    have := (vT_bd (hv x hx)).2.2.2.2.2.2.2.2
    omega
  · exact ⟨trivial, by decide⟩
theorem dec_bd (f : F) : (decV f).length ≤ 8 ∧ ∀ x ∈ decV f, x.d.length ≤ 1024 := by
  unfold decV
  split
  · exact ⟨Nat.zero_le _, fun x h => by cases h⟩
  · split
    · rename_i h
      obtain ⟨_, h8, hv⟩ := encE_ok h
      exact ⟨h8, fun x hx => (vT_bd (hv x hx)).2.2.2.2.2.2.2.2⟩
    · exact ⟨Nat.zero_le _, fun x h => by cases h⟩
set_option maxHeartbeats 3200000 in
set_option maxRecDepth 20000 in
theorem law_valid (l : List Tm) (n : Nat) (hn : l.length = n) (hn2 : n ≤ 2000000000000) (kind day : Int) (A : Option Addr) (c : Nat) (w : World) (hs : SeesT w (· < w.heap.size) A l) :
    Calls Try.prog 3 #[.slice A n c, .int .i64 kind, .int .i64 day] w fun e w' => e = .returned (.bool true) ∧ Below w.heap.size w w' := by
  have HS := Lib.hid (show _ ∧ _ from ⟨hs, hn⟩)
  have HP := Lib.hid (fun w hs => p_usable l n hn hn2 kind day A c w hs)
  have HR := Lib.hid (fun w hs => r_usable l n hn hn2 kind day A c w hs)
  obtain ⟨U, hU⟩ : ∃ z, useL l kind day = z := ⟨_, rfl⟩
  have hUl : U.length ≤ 140737488351232 := by
    rw [← hU]
    have := useTo_len l kind day l.length
    show (useTo l kind day l.length).length ≤ _
    omega
  rw [hU] at HP HR
  obtain ⟨m, hm⟩ : ∃ z, U.length = z := ⟨_, rfl⟩
  rw [hm] at hUl
  have HM := Lib.hid hm
  have HI := Lib.hid (fun A B c d w h1 h2 => same_ints U m hm hUl A B c d w h1 h2)
  clear hs hn hU hm
  go_enter Try.func3, Try.ntmps3
  go_wp2_with fail
  go_loopw [7] (fun i wr => ∃ (j : Nat), j ≤ n ∧ i = .int .i64 (j : Int) ∧ Hid (Below w.heap.size w wr)) (fun i _ => n - (intOf i).toNat)
  case atStart => exact ⟨0, by omega, rfl, Lib.hid (Below.refl _ _)⟩
  case round =>
    obtain ⟨j, hj, rfl, HB⟩ := hrel
    by_cases hlt : j < n
    · have dj : decide ((j : Int) < (n : Int)) = true := by simp; omega
      obtain ⟨x, hx⟩ : ∃ x, l[j]? = some x := ⟨_, List.getElem?_eq_getElem (by rw [HS.out.2]; exact hlt)⟩
      obtain ⟨b, o, Ad, cd, rfl, hb, hr, _, _, _⟩ := tm_at HS.out.1 hx
      have hr2 := fun cur (h : Below wr.heap.size wr cur) => rangeAt_on hr hb (below_on HB.out h)
      have hP := fun w => p_valid x Ad cd w
      have hR := fun w => r_valid x Ad cd w
      obtain ⟨us, hus⟩ : ∃ z, x.cs Ad cd = z := ⟨_, rfl⟩
      obtain ⟨v, hv⟩ : ∃ z, vT x = z := ⟨_, rfl⟩
      have husz : (Try.prog.info? 27).map (·.size) = some us.length := by rw [← hus]; exact size_t
      rw [hus] at hr2 hP hR
      rw [hv] at hP hR
      have HK := Lib.hid (show _ ∧ _ ∧ _ ∧ _ from ⟨hr2, husz, hP, hR⟩)
      have dv : (v != v) = false := by simp
      clear hx hb hr hr2 hP hR hus hv husz
      go_wp2_with fail
      have q1 := quiet_up (w := wr) fun w' _ => HK.out.2.2.1 w'
      have q2 := quiet_up (w := wr) fun w' _ => HK.out.2.2.2 w'
      have ix1 := fun w => ix_tm b o n c j hlt w
      refine wp_region_quiet_below (by kernel_rfl) (by kernel_rfl) ?_
      repeat (first
        | ((with_reducible refine at_qload_ (d := 17) ?_); refine quiet_load_mid rfl _ _ rfl b (o + j * 7) rfl us _ (range_up HK.out.1) Try.underlying27 rfl HK.out.2.1 ?_)
        | ((with_reducible refine at_qload_ (d := 22) ?_); refine quiet_load_mid rfl _ _ rfl b (o + j * 7) rfl us _ (range_up HK.out.1) Try.underlying27 rfl HK.out.2.1 ?_)
        | go_big_quiet_skip | (go_big_quiet_want; go_big_quiet_op; go_big_quiet_on) | quiet_step (first | with_reducible exact q1 _ _ | with_reducible exact q2 _ _))
      refine wpQuiet_nil ?_
      intro w3 hw3
      have H3 := Lib.hid (below_on HB.out (below_of_regrown hw3))
      clear hw3 q1 q2 ix1
      go_wp2
      go_roundw
      case rel => exact ⟨j + 1, by omega, by first | rfl | go_num, H3⟩
      case measure => simp [intOf]; omega
    · obtain rfl : n = j := by omega
      have dj : decide ((n : Int) < (n : Int)) = false := by simp
      go_wp2_with (first
        | (go_at_call 9; ((with_reducible refine (law_awake _).mono ?_); rintro e w4 ⟨rfl, hb⟩); have H4 := Lib.hid (below_on HB.out hb); clear hb)
        | (go_at_call 11; ((with_reducible refine (HP.out _ (HS.out.1.on H4.out)).mono ?_); rintro e w5 ⟨A5, c5, rfl, hs5, hb⟩); rw [HM.out]; have H5 := Lib.hid (show Below w.heap.size w w5 ∧ SeesP w5 (· < w5.heap.size) A5 (Is U) from ⟨below_on H4.out hb, hs5⟩); clear hs5 hb)
        | (go_at_call 12; ((with_reducible refine (HR.out _ (HS.out.1.on H5.out.1)).mono ?_); rintro e w6 ⟨A6, c6, rfl, hs6, hb⟩); rw [HM.out]; have H6 := Lib.hid (show Below w.heap.size w w6 ∧ SeesP w6 (· < w6.heap.size) A5 (Is U) ∧ SeesP w6 (· < w6.heap.size) A6 (Is U) from ⟨below_on H5.out.1 hb, SeesP.on2 H5.out.2 hb, hs6⟩); clear hs6 hb)
        | (go_at_call 10; ((with_reducible refine (HI.out _ _ _ _ _ H6.out.2.1 H6.out.2.2).mono ?_); rintro e w7 ⟨rfl, q, rfl⟩); have H7 := Lib.hid (below_dn H6.out.1 q)))
      go_ret
      exact ⟨rfl, H7.out⟩
set_option maxHeartbeats 3200000 in
set_option maxRecDepth 20000 in
theorem law_exact (l : List Tm) (n : Nat) (hn : l.length = n) (A : Option Addr) (c : Nat) (f : F) (m : Nat) (hm : f.len = m) (hok : f.ok) (hk0 : f.k0 ≤ 140737488351232) (B : Option Addr) (d : Nat) (w : World) (hs : SeesT w (· < w.heap.size) A l) (hf : SeesN w (· < w.heap.size) B f) :
    Calls Try.prog 4 #[.slice A n c, .slice B m d] w fun e w' => e = .returned (.bool true) ∧ Below w.heap.size w w' := by
  have hE := fun w hs => p_encode l n hn A c w hs
  have hG := fun w hs => r_encode l n hn A c w hs
  have hD := fun w hs => p_decode f m hm hok B d w hs
  have hH := fun w hs => r_decode f m hm hok hk0 B d w hs
  have hS : ∀ w, SeesN w (· < w.heap.size) B f → Calls Try.prog 16 #[.slice B m d, .int .i64 6] w fun e w' => e = .returned (.bool (smallB 6 f)) ∧ Below w.heap.size w w' := fun w hs => law_small 6 (by decide) f m hm B d w hs
  obtain ⟨hk, hz⟩ := enc_ok l
  have hbd := dec_bd f
  unfold EncIs at hE hG
  unfold DecIs at hD hH
  obtain ⟨fE, hfE⟩ : ∃ z, encF l = z := ⟨_, rfl⟩
  obtain ⟨ev, hev⟩ : ∃ z, encE l = z := ⟨_, rfl⟩
  obtain ⟨dV, hdV⟩ : ∃ z, decV f = z := ⟨_, rfl⟩
  obtain ⟨dE, hdE⟩ : ∃ z, decE f = z := ⟨_, rfl⟩
  obtain ⟨sm, hsm⟩ : ∃ z, smallB 6 f = z := ⟨_, rfl⟩
  rw [hfE, hev] at hE hG
  rw [hdV, hdE] at hD hH
  rw [hfE] at hk hz
  rw [hdV] at hbd
  rw [hsm] at hS
  have hSa := fun A1 A2 c1 c2 w h1 h2 => same_yes 75 (by decide) fE A1 A2 c1 c2 w (· < w.heap.size) (· < w.heap.size) (by omega) hk (SeesN.sees h1) (SeesN.sees h2)
  obtain ⟨fl, hfl⟩ : ∃ z, fE.len = z := ⟨_, rfl⟩
  obtain ⟨vl, hvl⟩ : ∃ z, dV.length = z := ⟨_, rfl⟩
  have hSb := fun A B c d w ha hb => r13_same dV vl hvl (by omega) (fun x hx => Nat.le_trans (hbd.2 x hx) (by decide)) A B c d w ha hb
  rw [hfl] at hE hG hSa
  rw [hvl] at hD hH
  have HE := Lib.hid hE
  have HG := Lib.hid hG
  have HD := Lib.hid hD
  have HH := Lib.hid hH
  have HS := Lib.hid hS
  have HA := Lib.hid hSa
  have HB := Lib.hid hSb
  have HI := Lib.hid (show _ ∧ _ from ⟨hs, hf⟩)
  have de : (ev != ev) = false := by simp
  have dd : (dE == dE) = true := by simp
  clear hE hG hD hH hS hSa hSb hk hz hbd hfE hev hdV hdE hsm hfl hvl hs hf hn hm hok hk0
  rcases sm with _ | _
  · go_enter Try.func4, Try.ntmps4
    go_wp2_with (first
      | (go_at_call 13; ((with_reducible refine (HE.out _ HI.out.1).mono ?_); rintro e w1 ⟨A1, c1, rfl, _, s1, hb⟩); have H1 := Lib.hid (show Below w.heap.size w w1 ∧ SeesN w1 (· < w1.heap.size) A1 fE from ⟨hb, s1.imp fun b hb => newB_lt hb⟩); clear s1 hb)
      | (go_at_call 14; ((with_reducible refine (HG.out _ (HI.out.1.on H1.out.1)).mono ?_); rintro e w2 ⟨A2, c2, rfl, _, s2, hb⟩); have H2 := Lib.hid (show Below w.heap.size w w2 ∧ SeesN w2 (· < w2.heap.size) A1 fE ∧ SeesN w2 (· < w2.heap.size) A2 fE from ⟨below_on H1.out.1 hb, H1.out.2.on hb, s2.imp fun b hb => newB_lt hb⟩); clear s2 hb)
      | (go_at_call 9; ((with_reducible refine (law_awake _).mono ?_); rintro e w3 ⟨rfl, hb⟩); have H3 := Lib.hid (show Below w.heap.size w w3 ∧ SeesN w3 (· < w3.heap.size) A1 fE ∧ SeesN w3 (· < w3.heap.size) A2 fE from ⟨below_on H2.out.1 hb, H2.out.2.1.on hb, H2.out.2.2.on hb⟩); clear hb)
      | (go_at_call 15; ((with_reducible refine (HA.out _ _ _ _ _ H3.out.2.1 H3.out.2.2).mono ?_); rintro e w4 ⟨rfl, q, rfl⟩); have H4 := Lib.hid (below_dn H3.out.1 q))
      | (go_at_call 16; ((with_reducible refine (HS.out _ (HI.out.2.on H4.out)).mono ?_); rintro e w5 ⟨rfl, hb⟩); have H5 := Lib.hid (below_on H4.out hb); clear hb))
    go_ret
    exact ⟨rfl, H5.out⟩
  · go_enter Try.func4, Try.ntmps4
    go_wp2_with (first
      | (go_at_call 13; ((with_reducible refine (HE.out _ HI.out.1).mono ?_); rintro e w1 ⟨A1, c1, rfl, _, s1, hb⟩); have H1 := Lib.hid (show Below w.heap.size w w1 ∧ SeesN w1 (· < w1.heap.size) A1 fE from ⟨hb, s1.imp fun b hb => newB_lt hb⟩); clear s1 hb)
      | (go_at_call 14; ((with_reducible refine (HG.out _ (HI.out.1.on H1.out.1)).mono ?_); rintro e w2 ⟨A2, c2, rfl, _, s2, hb⟩); have H2 := Lib.hid (show Below w.heap.size w w2 ∧ SeesN w2 (· < w2.heap.size) A1 fE ∧ SeesN w2 (· < w2.heap.size) A2 fE from ⟨below_on H1.out.1 hb, H1.out.2.on hb, s2.imp fun b hb => newB_lt hb⟩); clear s2 hb)
      | (go_at_call 9; ((with_reducible refine (law_awake _).mono ?_); rintro e w3 ⟨rfl, hb⟩); have H3 := Lib.hid (show Below w.heap.size w w3 ∧ SeesN w3 (· < w3.heap.size) A1 fE ∧ SeesN w3 (· < w3.heap.size) A2 fE from ⟨below_on H2.out.1 hb, H2.out.2.1.on hb, H2.out.2.2.on hb⟩); clear hb)
      | (go_at_call 15; ((with_reducible refine (HA.out _ _ _ _ _ H3.out.2.1 H3.out.2.2).mono ?_); rintro e w4 ⟨rfl, q, rfl⟩); have H4 := Lib.hid (below_dn H3.out.1 q))
      | (go_at_call 16; ((with_reducible refine (HS.out _ (HI.out.2.on H4.out)).mono ?_); rintro e w5 ⟨rfl, hb⟩); have H5 := Lib.hid (below_on H4.out hb); clear hb)
      | (go_at_call 17; ((with_reducible refine (HD.out _ (HI.out.2.on H5.out)).mono ?_); rintro e w6 ⟨A6, c6, rfl, s6, hb⟩); have H6 := Lib.hid (show Below w.heap.size w w6 ∧ SeesT w6 (· < w6.heap.size) A6 dV from ⟨below_on H5.out hb, s6.imp fun b hb => newB_lt hb⟩); clear s6 hb)
      | (go_at_call 18; ((with_reducible refine (HH.out _ (HI.out.2.on H6.out.1)).mono ?_); rintro e w7 ⟨A7, c7, rfl, s7, hb⟩); have H7 := Lib.hid (show Below w.heap.size w w7 ∧ SeesT w7 (· < w7.heap.size) A6 dV ∧ SeesT w7 (· < w7.heap.size) A7 dV from ⟨below_on H6.out.1 hb, H6.out.2.on hb, s7.imp fun b hb => newB_lt hb⟩); clear s7 hb)
      | (go_at_call 19; ((with_reducible refine (HB.out _ _ _ _ _ H7.out.2.1 H7.out.2.2).mono ?_); rintro e w8 ⟨rfl, hb⟩); have H8 := Lib.hid (below_on H7.out.1 hb); clear hb))
    go_ret
    exact ⟨rfl, H8.out⟩
end Go.Proofs.Ytobbnedojmcgoaa
