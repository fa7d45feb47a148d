/-
  What is proved here: the names of a field by the reference, for every field of at most 2^47 bytes.
-/
import Derived.Test.YtdlcoilpkelbaaaGreatDoorOsl
import Derived.Laws.DeepStrings4
namespace Go.Proofs.YtdlcoilpkelbaaaGreatDoor
open Go.RowKit

theorem RI.len {t : List UInt8} {m r a : Nat} {P0 P1 : List UInt8} (h : RI t m r a P0 P1) : P0.length ≤ t.length ∧ P1.length ≤ t.length := by
  obtain ⟨_, _, _, _, h5⟩ := h
  rcases h5 with ⟨_, _, h7, h8⟩ | ⟨_, p, _, _, _, _, h7, h8⟩
  · rw [h7, h8, exL_length]; simp; omega
  · rw [h7, h8, exL_length, exL_length]; simp; omega
theorem take_one {x : List UInt8} {k : Nat} (h : k < x.length) : (x.drop k).take 1 = [x[k]] := by rw [List.drop_eq_getElem_cons h]; rfl
theorem spE_good {x : List UInt8} (h1 : ¬ (x.length < 1 ∨ 64 < x.length)) (hf : fieldB x = true) : (goodT (trimT x) → spE x = 0) ∧ (¬ goodT (trimT x) → spE x = 1) := by
  have hi := good_iff (trim_chars hf) (trim_last x)
  constructor
  · intro h; unfold spE; rw [if_neg h1, if_neg (by rw [hf]; decide), if_pos (hi.2 h)]
  · intro h; unfold spE; rw [if_neg h1, if_neg (by rw [hf]; decide), if_neg (fun g => h (hi.1 g))]
theorem letf_cases (c : Int) : c = 60 ∨ (c ≠ 60 ∧ c < 65) ∨ (c ≠ 60 ∧ 90 < c) ∨ (c ≠ 60 ∧ 65 ≤ c ∧ c ≤ 90) := by omega
theorem not_field {x : List UInt8} {k : Nat} (hf : fieldB x = true) (hk : k < x.length) (h : cB x k ≠ 60) : 65 ≤ cB x k ∧ cB x k ≤ 90 := by
  have h2 := (field_at hf k hk).resolve_right h
  exact of_decide_eq_true h2

/-- a string of one letter, cut out of a longer one -/
theorem str_slice (T : ByteArray) (i : Nat) (h : i < T.size) (w : World) : (Instr.slice 9 (.string T) (some (.int .i64 (i : Int))) (some (.int .i64 ((i : Int) + 1))) none).run Tryz.prog w = .ok (.string (T.extract i (i + 1))) w := by
  rw [run_slice_string_if w 9 T .i64 .i64 i ((i : Int) + 1) Tryz.underlying9, if_pos (by omega), if_pos (by omega)]
  rfl
/-- the last letter -/
theorem str_last (s : ByteArray) (h : 1 ≤ s.size) (w : World) : (Instr.index 9 (.string s) (.int .i64 ((s.size : Int) - 1))).run Tryz.prog w = .ok (.int .u8 ((s[s.size - 1]'(by omega)).toNat : Int)) w := by
  rw [run_index_string w 9 s .i64 _ Tryz.underlying9, dif_pos (by omega)]
  have : ((s.size : Int) - 1).toNat = s.size - 1 := by omega
  simp only [this]
set_option maxRecDepth 40000 in
set_option maxHeartbeats 4000000 in
theorem r_split (s : ByteArray) (x : List UInt8) (hx : s = S x) (w : World) (hm : s.size ≤ 140737488355328) :
    Calls Tryz.prog 67 #[.string s] w fun e w' => e = .returned (.tuple #[.string (S (spA x)), .string (S (spB x)), .bool (spF x), .int .i64 (spE x)]) ∧ Below w.heap.size w w' := by
  have hl : s.size = x.length := by rw [hx, S_size]
  have HX := Lib.hid hx
  have HL := Lib.hid hl
  clear hx
  by_cases h1 : x.length < 1 ∨ 64 < x.length
  · have e : spE x = 2 := by unfold spE; rw [if_pos h1]
    obtain ⟨a1, a2, a3⟩ := sp_no e (by decide)
    rw [a1, a2, a3, e]
    rw [← hl] at h1
    clear hl e a1 a2 a3
    rcases h1 with h1 | h1
    all_goals
      go_enter Tryz.func67, Tryz.ntmps67
      go_wp2_with fail
      refine ret4 rfl rfl ?_
      exact ⟨rfl, Below.refl _ _⟩
  · have b1 : 1 ≤ s.size := by omega
    have b2 : s.size ≤ 64 := by omega
    have H1 := Lib.hid h1
    obtain ⟨T, hT⟩ : ∃ T, S (trimT x) = T := ⟨_, rfl⟩
    have hTs : T.size = (trimT x).length := by rw [← hT, S_size]
    have hT64 : T.size ≤ 64 := by have := trim_len x; omega
    have HT := Lib.hid hT
    have HTS := Lib.hid hTs
    clear hT hTs hl h1
    go_enter Tryz.func67, Tryz.ntmps67
    go_wp2_with fail
    go_loop [6] (fun i => ∃ k : Nat, k ≤ s.size ∧ i = .int .i64 k ∧ Hid (∀ j, j < k → ltrB (cB x j) = true ∨ cB x j = 60)) (fun i => s.size - (intOf i).toNat)
    case atStart => exact ⟨0, Nat.zero_le _, rfl, Lib.hid (fun j h => by omega)⟩
    case round =>
      obtain ⟨k, hk, rfl, HF⟩ := hrel
      by_cases hlt : k < s.size
      · have hc := s_at HX.out k hlt
        have hgood : (ltrB (cB x k) = true ∨ cB x k = 60) → Hid (∀ j, j < k + 1 → ltrB (cB x j) = true ∨ cB x j = 60) := fun h => Lib.hid (fun j hj => by
          rcases Nat.lt_or_ge j k with h2 | h2
          · exact HF.out j h2
          · obtain rfl : j = k := by omega
            exact h)
        have hbad : ltrB (cB x k) = false → cB x k ≠ 60 → spE x = 12 := fun h h2 => by
          have := field_bad (k := k) (by have := HL.out; omega) h h2
          unfold spE
          rw [if_neg H1.out, if_pos this]
        rcases letf_cases (cB x k) with h | h | h | h
        · have HQ := hgood (.inr h)
          rw [← hc] at h
          clear hc hgood hbad
          have d0 : ((s[k].toNat : Int) != 60) = false := by rw [h]; rfl
          go_wp2_with fail
          go_round
          case rel => exact ⟨k + 1, by omega, by go_num, HQ⟩
          case measure => simp [intOf]; omega
        · have e := hbad (ltr_no (.inl h.2)) h.1
          have HE := Lib.hid (And.intro e (sp_no e (by decide)))
          rw [← hc] at h
          obtain ⟨h, h0⟩ := h
          clear hc hgood hbad e
          have d0 : ((s[k].toNat : Int) != 60) = true := by simpa using h
          have d1 : decide ((s[k].toNat : Int) < 65) = true := by simpa using h0
          go_wp2_with fail
          refine ret4 rfl rfl ?_
          exact ⟨by rw [HE.out.1, HE.out.2.1, HE.out.2.2.1, HE.out.2.2.2]; rfl, Below.refl _ _⟩
        · have e := hbad (ltr_no (.inr h.2)) h.1
          have HE := Lib.hid (And.intro e (sp_no e (by decide)))
          rw [← hc] at h
          obtain ⟨h, h0⟩ := h
          clear hc hgood hbad e
          have d0 : ((s[k].toNat : Int) != 60) = true := by simpa using h
          have d1 : decide ((s[k].toNat : Int) < 65) = false := by simp; omega
          have d2 : decide ((90 : Int) < (s[k].toNat : Int)) = true := by simpa using h0
          go_wp2_with fail
          refine ret4 rfl rfl ?_
          exact ⟨by rw [HE.out.1, HE.out.2.1, HE.out.2.2.1, HE.out.2.2.2]; rfl, Below.refl _ _⟩
        · have HQ := hgood (.inl (ltr_yes h.2.1 h.2.2))
          rw [← hc] at h
          obtain ⟨h, h0, h2⟩ := h
          clear hc hgood hbad
          have d0 : ((s[k].toNat : Int) != 60) = true := by simpa using h
          have d1 : decide ((s[k].toNat : Int) < 65) = false := by simp; omega
          have d2 : decide ((90 : Int) < (s[k].toNat : Int)) = false := by simp; omega
          go_wp2_with fail
          go_round
          case rel => exact ⟨k + 1, by omega, by go_num, HQ⟩
          case measure => simp [intOf]; omega
      · have hfb : fieldB x = true := field_good (fun j hj => HF.out j (by have := HL.out; omega))
        have HFB := Lib.hid hfb
        have HSP := Lib.hid (spE_good H1.out hfb)
        clear HF hfb
        go_wp2_with (go_at_call 65; refine (r_trim s x HX.out _ hm).mono ?_; rintro e w' ⟨rfl, hw⟩; rw [hw, HT.out]; clear hw)
        have hrow : (w.alloc (.cells #[.string ⟨#[]⟩, .string ⟨#[]⟩] 68)).heap[w.heap.size]? = some (.cells #[.string ⟨#[]⟩, .string ⟨#[]⟩] 68 (0, 0)) := heap_alloc_new w _
        have HR0 := Lib.hid hrow
        clear hrow
        obtain ⟨g, hg⟩ : ∃ g, g = w.heap.size := ⟨_, rfl⟩
        have HG : Hid (w.heap.size ≤ g) := Lib.hid (by omega)
        rw [← hg] at HR0 ⊢
        have HB0 : Hid (Below w.heap.size w (w.alloc (.cells #[.string ⟨#[]⟩, .string ⟨#[]⟩] 68))) := Lib.hid ((Below.refl _ _).alloc (Nat.le_refl _) _)
        clear hg
        go_loopw [9, 10, 11] (fun va vr vi wr => ∃ (i m r a : Nat) (P0 P1 : List UInt8), va = .int .i64 a ∧ vr = .int .i64 r ∧ vi = .int .i64 i ∧ a ≤ 1 ∧ Hid (i = m + r) ∧ Hid (RI (trimT x) m r a P0 P1) ∧ Hid (wr.heap[g]? = some (.cells #[.string (S P0), .string (S P1)] 68 (0, 0))) ∧ Hid (Below w.heap.size w wr)) (fun _ _ vi _ => T.size - (intOf vi).toNat)
        case atStart => exact ⟨0, 0, 0, 0, [], [], by go_num, by go_num, by go_num, by omega, Lib.hid rfl, Lib.hid (RI.start _), HR0, HB0⟩
        case round =>
          obtain ⟨i, m, r, a, P0, P1, rfl, rfl, rfl, ha, HI, HR, HROW, HB⟩ := hrel
          obtain ⟨p0, hp0⟩ : ∃ p, p = S P0 := ⟨_, rfl⟩
          obtain ⟨p1, hp1⟩ : ∃ p, p = S P1 := ⟨_, rfl⟩
          have HPP := Lib.hid (And.intro hp0 hp1)
          rw [← hp0, ← hp1] at HROW
          have l0 : p0.size ≤ 64 := by rw [hp0, S_size]; have := HR.out.len.1; have := HTS.out; omega
          have l1 : p1.size ≤ 64 := by rw [hp1, S_size]; have := HR.out.len.2; have := HTS.out; omega
          have c0 : wr.cell? ⟨g, 0, none⟩ = some (.string p0) := cell_of_row wr g 0 _ _ _ HROW.out
          have c1 : wr.cell? ⟨g, 1, none⟩ = some (.string p1) := cell_of_row wr g 1 _ _ _ HROW.out
          have f0 := frozen_of_row wr g 0 _ _ HROW.out
          have f1 := frozen_of_row wr g 1 _ _ HROW.out
          have hmr : i ≤ T.size := by have h1 := HR.out.1; have h2 := HI.out; have h3 := HTS.out; omega
          have hr64 : r ≤ 64 := by have := HI.out; omega
          by_cases hlt : i < T.size
          · have hki : i < (trimT x).length := by rw [← HTS.out]; exact hlt
            have hkt : m + r < (trimT x).length := by rw [← HI.out]; exact hki
            have hc := s_at HT.out.symm i hlt
            have hlt1 : (i : Int) + 1 ≤ (T.size : Int) := by omega
            by_cases h60 : cB (trimT x) i = 60
            · have HQ := Lib.hid (HR.out.fill hkt (by rw [← HI.out]; exact h60))
              rw [← hc] at h60
              clear hc hp0 hp1
              go_wp2_with fail
              go_roundw
              case rel => exact ⟨i + 1, m, r + 1, a, P0, P1, by go_num, by go_num, by go_num, ha, Lib.hid (by rw [HI.out]; omega), HQ, by rw [← HPP.out.1, ← HPP.out.2]; exact HROW, HB⟩
              case measure => simp [intOf]; omega
            · have hnc : cB (trimT x) (m + r) ≠ 60 := by rw [← HI.out]; exact h60
              have hns : (T[i].toNat : Int) ≠ 60 := by rw [hc]; exact h60
              clear hc h60
              have d60 : ((T[i].toNat : Int) == 60) = false := by rw [beq_eq_false_iff_ne]; exact hns
              by_cases r2 : 2 < r
              · have d2 : decide ((2 : Int) < (r : Int)) = true := by simp; omega
                clear hp0 hp1
                have hng := HR.out.bad hkt (.inl r2)
                have e := HSP.out.2 hng
                have HE := Lib.hid (And.intro e (sp_no e (by decide)))
                clear hng e hns hnc
                go_wp2_with fail
                refine ret4 rfl rfl ?_
                exact ⟨by rw [HE.out.1, HE.out.2.1, HE.out.2.2.1, HE.out.2.2.2]; rfl, HB.out⟩
              · by_cases m0 : 0 < r ∧ m = 0
                · obtain ⟨q0, q1⟩ := m0
                  have d2 : decide ((2 : Int) < (r : Int)) = false := by simp; omega
                  have d3 : decide ((0 : Int) < (r : Int)) = true := by simp; omega
                  have dm : ((i : Int) == (r : Int)) = true := by rw [beq_iff_eq]; have := HI.out; omega
                  clear hp0 hp1
                  have hng := HR.out.bad hkt (.inr (.inl ⟨q0, q1⟩))
                  have e := HSP.out.2 hng
                  have HE := Lib.hid (And.intro e (sp_no e (by decide)))
                  clear hng e hns hnc
                  go_wp2_with fail
                  refine ret4 rfl rfl ?_
                  exact ⟨by rw [HE.out.1, HE.out.2.1, HE.out.2.2.1, HE.out.2.2.2]; rfl, HB.out⟩
                · by_cases ra : r = 2 ∧ a = 1
                  · obtain ⟨rfl, rfl⟩ := ra
                    have dm : ((i : Int) == 2) = false := by rw [beq_eq_false_iff_ne]; have := HI.out; omega
                    clear hp0 hp1
                    have hng := HR.out.bad hkt (.inr (.inr ⟨rfl, rfl⟩))
                    have e := HSP.out.2 hng
                    have HE := Lib.hid (And.intro e (sp_no e (by decide)))
                    clear hng e hns hnc
                    go_wp2_with fail
                    refine ret4 rfl rfl ?_
                    exact ⟨by rw [HE.out.1, HE.out.2.1, HE.out.2.2.1, HE.out.2.2.2]; rfl, HB.out⟩
                  · have hr : (r = 0 ∧ a = 0) ∨ (r = 0 ∧ a = 1) ∨ (r = 1 ∧ a = 0) ∨ (r = 1 ∧ a = 1) ∨ (r = 2 ∧ a = 0) := by omega
                    have hm0 : r = 0 ∨ 0 < m := by omega
                    have hel : (trimT x)[m + r]'hkt = (trimT x)[i]'hki := by simp only [HI.out]
                    clear d60 r2 m0 ra
                    rcases hr with ⟨rfl, rfl⟩ | ⟨rfl, rfl⟩ | ⟨rfl, rfl⟩ | ⟨rfl, rfl⟩ | ⟨rfl, rfl⟩
                    · have hstep := HR.out.zero hkt hnc
                      have hel' : (trimT x)[m]'hkt = (trimT x)[i]'hki := hel
                      rw [hel'] at hstep
                      rw [if_pos rfl, if_pos rfl] at hstep
                      have HS := Lib.hid hstep
                      clear hstep
                      have hnew : p0 ++ T.extract i (i + 1) = S (P0 ++ [(trimT x)[i]]) := by
                        rw [hp0, ← HT.out, S_extract, show i + 1 - i = 1 by omega, take_one hki]
                        rw [S_append]
                      have HNW := Lib.hid hnew
                      clear hnew hp0 hp1
                      have d60 : ((T[i].toNat : Int) == 60) = false := by rw [beq_eq_false_iff_ne]; exact hns
                      have d2 : decide ((2 : Int) < 0) = false := by decide
                      have hsl := str_slice T i hlt
                      clear hns hnc hel hel'
                      go_wp2_with fail
                      go_region
                      all_goals
                        clear hsl c0 c1 f0 f1 d60 d2
                        go_wp2_with fail
                        go_roundw
                        case rel =>
                          refine ⟨i + 1, m + 1, 0, 0, P0 ++ [(trimT x)[i]], P1, by go_num, by go_num, by go_num, by omega, Lib.hid (by rw [HI.out]), HS, Lib.hid ?_, Lib.hid ?_⟩
                          · rw [← HNW.out, ← HPP.out.2]
                            exact (Go.Joins.block_setCell (i := 0) HROW.out _ : _)
                          · exact below_dn (HB.out.setCell (p := ⟨g, 0, none⟩) HG.out _) 1
                        case measure => show T.size - ((i : Int) + 1).toNat < T.size - ((i : Int)).toNat; omega
                    · have hstep := HR.out.zero hkt hnc
                      have hel' : (trimT x)[m]'hkt = (trimT x)[i]'hki := hel
                      rw [hel'] at hstep
                      rw [if_neg (by decide), if_neg (by decide)] at hstep
                      have HS := Lib.hid hstep
                      clear hstep
                      have hnew : p1 ++ T.extract i (i + 1) = S (P1 ++ [(trimT x)[i]]) := by
                        rw [hp1, ← HT.out, S_extract, show i + 1 - i = 1 by omega, take_one hki]
                        rw [S_append]
                      have HNW := Lib.hid hnew
                      clear hnew hp0 hp1
                      have d60 : ((T[i].toNat : Int) == 60) = false := by rw [beq_eq_false_iff_ne]; exact hns
                      have d2 : decide ((2 : Int) < 0) = false := by decide
                      have hsl := str_slice T i hlt
                      clear hns hnc hel hel'
                      go_wp2_with fail
                      go_region
                      all_goals
                        clear hsl c0 c1 f0 f1 d60 d2
                        go_wp2_with fail
                        go_roundw
                        case rel =>
                          refine ⟨i + 1, m + 1, 0, 1, P0, P1 ++ [(trimT x)[i]], by go_num, by go_num, by go_num, by omega, Lib.hid (by rw [HI.out]), HS, Lib.hid ?_, Lib.hid ?_⟩
                          · rw [← HNW.out, ← HPP.out.1]
                            exact (Go.Joins.block_setCell (i := 1) HROW.out _ : _)
                          · exact below_dn (HB.out.setCell (p := ⟨g, 1, none⟩) HG.out _) 1
                        case measure => show T.size - ((i : Int) + 1).toNat < T.size - ((i : Int)).toNat; omega
                    · have hstep := HR.out.one hkt (by omega) hnc
                      have hel' : (trimT x)[m + 1]'hkt = (trimT x)[i]'hki := hel
                      rw [hel'] at hstep
                      rw [if_pos rfl, if_pos rfl] at hstep
                      have HS := Lib.hid hstep
                      clear hstep
                      have hnew : p0 ++ ⟨#[32]⟩ ++ T.extract i (i + 1) = S (P0 ++ [32] ++ [(trimT x)[i]]) := by
                        rw [hp0, ← HT.out, S_extract, show i + 1 - i = 1 by omega, take_one hki]
                        show S P0 ++ S [32] ++ S [(trimT x)[i]] = _
                        rw [S_append, S_append]
                      have HNW := Lib.hid hnew
                      clear hnew hp0 hp1
                      have d60 : ((T[i].toNat : Int) == 60) = false := by rw [beq_eq_false_iff_ne]; exact hns
                      have d2 : decide ((2 : Int) < 1) = false := by decide
                      have dm : ((i : Int) == 1) = false := by rw [beq_eq_false_iff_ne]; have := HI.out; omega
                      have hsl := str_slice T i hlt
                      clear hns hnc hel hel'
                      go_wp2_with fail
                      go_region
                      all_goals
                        clear hsl c0 c1 f0 f1 d60 d2
                        go_wp2_with fail
                        go_roundw
                        case rel =>
                          refine ⟨i + 1, m + 2, 0, 0, P0 ++ [32] ++ [(trimT x)[i]], P1, by go_num, by go_num, by go_num, by omega, Lib.hid (by rw [HI.out]), HS, Lib.hid ?_, Lib.hid ?_⟩
                          · rw [← HNW.out, ← HPP.out.2]
                            exact (Go.Joins.block_setCell (i := 0) (Go.Joins.block_setCell (i := 0) HROW.out _) _ : _)
                          · exact below_dn ((HB.out.setCell (p := ⟨g, 0, none⟩) HG.out _).setCell (p := ⟨g, 0, none⟩) HG.out _) 1
                        case measure => show T.size - ((i : Int) + 1).toNat < T.size - ((i : Int)).toNat; omega
                    · have hstep := HR.out.one hkt (by omega) hnc
                      have hel' : (trimT x)[m + 1]'hkt = (trimT x)[i]'hki := hel
                      rw [hel'] at hstep
                      rw [if_neg (by decide), if_neg (by decide)] at hstep
                      have HS := Lib.hid hstep
                      clear hstep
                      have hnew : p1 ++ ⟨#[32]⟩ ++ T.extract i (i + 1) = S (P1 ++ [32] ++ [(trimT x)[i]]) := by
                        rw [hp1, ← HT.out, S_extract, show i + 1 - i = 1 by omega, take_one hki]
                        show S P1 ++ S [32] ++ S [(trimT x)[i]] = _
                        rw [S_append, S_append]
                      have HNW := Lib.hid hnew
                      clear hnew hp0 hp1
                      have d60 : ((T[i].toNat : Int) == 60) = false := by rw [beq_eq_false_iff_ne]; exact hns
                      have d2 : decide ((2 : Int) < 1) = false := by decide
                      have dm : ((i : Int) == 1) = false := by rw [beq_eq_false_iff_ne]; have := HI.out; omega
                      have hsl := str_slice T i hlt
                      clear hns hnc hel hel'
                      go_wp2_with fail
                      go_region
                      all_goals
                        clear hsl c0 c1 f0 f1 d60 d2
                        go_wp2_with fail
                        go_roundw
                        case rel =>
                          refine ⟨i + 1, m + 2, 0, 1, P0, P1 ++ [32] ++ [(trimT x)[i]], by go_num, by go_num, by go_num, by omega, Lib.hid (by rw [HI.out]), HS, Lib.hid ?_, Lib.hid ?_⟩
                          · rw [← HNW.out, ← HPP.out.1]
                            exact (Go.Joins.block_setCell (i := 1) (Go.Joins.block_setCell (i := 1) HROW.out _) _ : _)
                          · exact below_dn ((HB.out.setCell (p := ⟨g, 1, none⟩) HG.out _).setCell (p := ⟨g, 1, none⟩) HG.out _) 1
                        case measure => show T.size - ((i : Int) + 1).toNat < T.size - ((i : Int)).toNat; omega
                    · have hstep := HR.out.two hkt (by omega) hnc
                      have hel' : (trimT x)[m + 2]'hkt = (trimT x)[i]'hki := hel
                      rw [hel'] at hstep
                      have HS := Lib.hid hstep
                      clear hstep
                      have hnew : p1 ++ T.extract i (i + 1) = S (P1 ++ [(trimT x)[i]]) := by
                        rw [hp1, ← HT.out, S_extract, show i + 1 - i = 1 by omega, take_one hki]
                        rw [S_append]
                      have HNW := Lib.hid hnew
                      clear hnew hp0 hp1
                      have d60 : ((T[i].toNat : Int) == 60) = false := by rw [beq_eq_false_iff_ne]; exact hns
                      have d2 : decide ((2 : Int) < 2) = false := by decide
                      have dm : ((i : Int) == 2) = false := by rw [beq_eq_false_iff_ne]; have := HI.out; omega
                      have hsl := str_slice T i hlt
                      clear hns hnc hel hel'
                      go_wp2_with fail
                      go_region
                      all_goals
                        clear hsl c0 c1 f0 f1 d60 d2
                        go_wp2_with fail
                        go_roundw
                        case rel =>
                          refine ⟨i + 1, m + 3, 0, 1, P0, P1 ++ [(trimT x)[i]], by go_num, by go_num, by go_num, by omega, Lib.hid (by rw [HI.out]), HS, Lib.hid ?_, Lib.hid ?_⟩
                          · rw [← HNW.out, ← HPP.out.1]
                            exact (Go.Joins.block_setCell (i := 1) HROW.out _ : _)
                          · exact below_dn (HB.out.setCell (p := ⟨g, 1, none⟩) HG.out _) 1
                        case measure => show T.size - ((i : Int) + 1).toNat < T.size - ((i : Int)).toNat; omega
          · have hmr2 : m + r = (trimT x).length := by rw [← HTS.out, ← HI.out]; omega
            have hd := HR.out.done hmr2 (trim_last x)
            by_cases hP : P0 = []
            · have e := HSP.out.2 (hd.1 hP)
              have HE := Lib.hid (And.intro e (sp_no e (by decide)))
              have hem := s_nil hp0 hP
              clear hd hP e hp0 hp1
              go_wp2_with fail
              refine ret4 rfl rfl ?_
              exact ⟨by rw [HE.out.1, HE.out.2.1, HE.out.2.2.1, HE.out.2.2.2]; rfl, HB.out⟩
            · obtain ⟨d1, d2, d3⟩ := hd.2 hP
              have e := HSP.out.1 d1
              have hem := s_ne hp0 hP
              have HE := Lib.hid (And.intro e (sp_yes e))
              rw [d2] at hp0
              rw [d3] at hp1
              have HP2 := Lib.hid (And.intro hp0 hp1)
              have hlx : s.size - 1 < s.size := by omega
              have hcl := s_at HX.out (s.size - 1) hlx
              obtain ⟨FU, hFU⟩ : ∃ FU, decide (cB x (x.length - 1) ≠ 60) = FU := ⟨_, rfl⟩
              have hfu : ((s[s.size - 1].toNat : Int) != 60) = FU := by
                rw [hcl, ← hFU, HL.out]
                by_cases h : cB x (x.length - 1) = 60
                · rw [h]; rfl
                · rw [decide_eq_true h]; simpa using h
              have HFU := Lib.hid hFU
              have hlst := str_last s b1
              clear hd hP d1 d2 d3 hp0 hp1 e hFU hcl
              go_wp2_with fail
              go_quiet (fail)
              go_wp2_with fail
              refine ret4 rfl rfl ?_
              exact ⟨by rw [HE.out.1, HE.out.2.1, HE.out.2.2.1, HE.out.2.2.2, ← HP2.out.1, ← HP2.out.2, HFU.out]; rfl, below_dn HB.out _⟩

end Go.Proofs.YtdlcoilpkelbaaaGreatDoor
