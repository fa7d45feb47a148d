/-
  What is proved here: the law SecurityinfoTells as a function.
-/
import Derived.Test.YtmkggpgpiepjfaaDoorZKg
import Derived.Test.YtmkggpgpiepjfaaDoorZKa
import Derived.Test.YtmkggpgpiepjfaaDoorZKe
namespace Go.Proofs.YtmkggpgpiepjfaaDoor
open Go.RowKit
set_option maxRecDepth 8000
set_option linter.unusedVariables false
set_option linter.unusedSimpArgs false
theorem take_some {l : List Value} {m j : Nat} {u : Value} (h : (l.take m)[j]? = some u) : l[j]? = some u := by
  rw [List.getElem?_take] at h
  split at h
  · exact h
  · cases h
theorem own_zero {w0 w : World} {v : Value} {L : List Im} {A : Option Addr} {n c : Nat} (h : HeldI w0 w v L) (hn : 0 < L.length) (e : v = .slice A n c) : ∃ g, A = some ⟨g, 0, none⟩ := by
  rcases h.2 with ⟨_, h0⟩ | ⟨g, cap, cur, e2, _⟩
  · omega
  · rw [e] at e2
    injection e2 with e2
    exact ⟨g, e2⟩
theorem add_k1 (k : Nat) (hk : k ≤ 1000000) (p q : Operand) (w : World) : (do eqGuard .add 3 p q (.int .i64 (k : Int)) (.int .i64 1); binOp .add 3 (.int .i64 (k : Int)) (.int .i64 1)).run Tryd.prog w = .ok (.int .i64 ((k + 1 : Nat) : Int)) w := by
  have e : ((k + 1 : Nat) : Int) = wrap64 ((k : Int) + 1) := by unfold wrap64; omega
  rw [e]
  simp [eqGuard, binOp, go_sem]
  rw [IntKind.wrap_i64]
  unfold wrap64
  rfl
theorem mod_at (at_ : Int) (lo : -9223372036854775808 ≤ at_) (hi : at_ ≤ 9223372036854775807) (n : Nat) (h0 : 0 < n) (h1 : n ≤ 1000000) : ∃ k : Nat, k < n ∧ ∀ w, Calls Tryd.prog 27 #[.int .i64 at_, .int .i64 (n : Int)] w fun e w' => e = .returned (.int .i64 (k : Int)) ∧ w' = w := by
  have h2 := Int.emod_nonneg at_ (show (n : Int) ≠ 0 by omega)
  have h3 := Int.emod_lt_of_pos at_ (show (0 : Int) < n by omega)
  refine ⟨(at_ % n).toNat, by omega, fun w => ?_⟩
  rw [Int.toNat_of_nonneg h2]
  exact made_mod at_ n lo hi (by omega) (by omega) w
theorem drop_src {w : World} {g n c k : Nat} {L : List Im} {ad : Addr} (hn : L.length = n) (hc : n ≤ c) (had : ad = ⟨g, k * 5, none⟩ ∨ c = k) {p : Nat → Prop} (hs : SeesP w p (some ⟨g, 0, none⟩) (Ics L)) (j : Nat) (u : Value) (hu : (Ics (L.drop k))[j]? = some u) : w.cell? (ad.add j) = some u := by
  rw [Ics_drop, List.getElem?_drop] at hu
  rcases had with rfl | rfl
  · have h := hs.src _ rfl (5 * k + j) u hu
    have e1 : (⟨g, k * 5, none⟩ : Addr).add j = ⟨g, k * 5 + j, none⟩ := by unfold Addr.add; split <;> simp_all
    have e2 : (⟨g, 0, none⟩ : Addr).add (5 * k + j) = ⟨g, 5 * k + j, none⟩ := by unfold Addr.add; split <;> simp_all
    rw [e1]
    rw [e2] at h
    rw [show k * 5 + j = 5 * k + j by omega]
    exact h
  · have := (List.getElem?_eq_some_iff.1 hu).1
    rw [Ics_len] at this
    omega
set_option maxHeartbeats 6400000 in
set_option maxRecDepth 20000 in
theorem law_tells (A : Option Addr) (c : Nat) (ls : List Int) (at_ : Int) (w : World) (lo : -9223372036854775808 ≤ at_) (hi64 : at_ ≤ 9223372036854775807) (ht : TabX w) (hl : ls.length ≤ 140737488351232) (hr : ∀ x ∈ ls, -9223372036854775808 ≤ x ∧ x ≤ 9223372036854775807) (hs : SeesP w (· < w.heap.size) A (ls.map (Value.int .i64))) :
    Calls Tryd.prog 7 #[.slice A ls.length c, .int .i64 at_] w fun e w' => e = .returned (.bool true) ∧ Below w.heap.size w w' := by
  obtain ⟨i0, hi, hz0, hz1, hz2⟩ := info_parts info_inf
  have HT := Lib.hid ht
  have HR := Lib.hid (made_roll A c ls w hl hr hs)
  have HL := Lib.hid (made_light A ls.length c w hl)
  obtain ⟨m, hm⟩ : ∃ z, ls.length = z := ⟨_, rfl⟩
  rw [hm] at HR HL ⊢
  obtain ⟨lg, hlg⟩ : ∃ z, decide (m ≤ 400) = z := ⟨_, rfl⟩
  rw [hlg] at HL
  clear hl hr hs hm hlg ht
  rcases lg with _ | _
  · go_enter Tryd.func7, Tryd.ntmps7
    go_wp2_with (first
      | (go_at_call 17; ((with_reducible refine HL.out.mono ?_); rintro e w1 ⟨rfl, hw1⟩); (have hw2 := hw1.symm; clear hw1; subst hw2))
      | (go_at_call 12; ((with_reducible refine (law_awake _ HT.out).mono ?_); rintro e w2 ⟨rfl, hb⟩); have H2 := Lib.hid hb; clear hb))
    go_ret
    exact ⟨rfl, H2.out⟩
  obtain ⟨D, hD⟩ : ∃ z, w.heap.size = z := ⟨_, rfl⟩
  rw [hD] at HR
  have HBR := Lib.hid (show ∀ a b, Below w.heap.size w a → a.grownBy b (some D) → Below w.heap.size w b from fun a b h hg => below_row2 h (by rw [hD]; exact hg))
  have HBD := Lib.hid (show ∀ b, Below D w b → Below w.heap.size w b from fun b h => by rw [hD]; exact h)
  clear hD
  have HMD := Lib.hid (show ∀ n : Nat, 0 < n → n ≤ 15 → ∃ k : Nat, k < n ∧ ∀ w, Calls Tryd.prog 27 #[.int .i64 at_, .int .i64 (n : Int)] w fun e w' => e = .returned (.int .i64 (k : Int)) ∧ w' = w from fun n h0 h1 => mod_at at_ lo hi64 n h0 (by omega))
  clear lo hi64
  go_enter Tryd.func7, Tryd.ntmps7
  go_wp2_with (first
    | (go_at_call 17; ((with_reducible refine HL.out.mono ?_); rintro e w1 ⟨rfl, hw1⟩); (have hw2 := hw1.symm; clear hw1; subst hw2))
    | (go_at_call 18; ((with_reducible refine HR.out.mono ?_); rintro e w2 ⟨rfl, hd, hb⟩); have H2 := Lib.hid (show Below w.heap.size w w2 ∧ DiceOk w2 D ∧ D < w2.heap.size from ⟨HBD.out _ hb, hd, hd.lt⟩); clear hb hd)
    | (go_at_call 19; ((with_reducible refine (dice_infos D _ H2.out.2.1).mono ?_); rintro e w3 ⟨v, L, rfl, hva, hll, hh, hg, hd⟩); obtain ⟨A3, c3, hv3, hc3, hs3⟩ := HeldI.slice hh; obtain ⟨n, hn⟩ : ∃ z, L.length = z := ⟨_, rfl⟩; rw [hn] at hv3 hll hc3; have HG := Lib.hid (show 0 < n → ∃ g, A3 = some ⟨g, 0, none⟩ from fun h => own_zero hh (by rw [hn]; exact h) (by rw [hv3])); subst hv3; have H3 := Lib.hid (show SeesP w3 (· < w3.heap.size) A3 (Ics L) ∧ vaE L = 0 ∧ n ≤ 15 ∧ Below w.heap.size w w3 from ⟨hs3.imp newB_up, hva, hll, HBR.out _ _ H2.out.1 hg⟩); have HN := Lib.hid hn; have HC3 := Lib.hid hc3.2; clear hva hll hh hg hd hc3 hs3 hn; (rcases Nat.eq_zero_or_pos n with h0 | h0) <;> (first | (have d0 : ((n : Int) == 0) = true := (by simp; omega); have H0 := Lib.hid h0; clear h0) | (have d0 : ((n : Int) == 0) = false := (by simp; omega))))
    | (go_at_call 12; ((with_reducible refine (law_awake _ (HT.out.on H3.out.2.2.2)).mono ?_); rintro e w4 ⟨rfl, hb⟩); have H4 := Lib.hid (show SeesP w4 (· < w4.heap.size) A3 (Ics L) ∧ Below w.heap.size w w4 from ⟨SeesP.on2 H3.out.1 hb, below_on H3.out.2.2.2 hb⟩); clear hb)
    | (go_at_call 25; ((with_reducible refine (p_missing L L n n HN.out (by have := H3.out.2.2.1; omega) HN.out (by have := H3.out.2.2.1; omega) A3 A3 c3 c3 _ H4.out.1 H4.out.1).mono ?_); rintro e w5 ⟨A5, c5, he5, _, hb⟩); rw [misI_self] at he5; subst he5; have H5 := Lib.hid (show SeesP w5 (· < w5.heap.size) A3 (Ics L) ∧ Below w.heap.size w w5 from ⟨SeesP.on2 H4.out.1 hb, below_on H4.out.2 hb⟩); clear hb)
    | (go_at_call 27; obtain ⟨k, hk, hmd⟩ := HMD.out n h0 H3.out.2.2.1; ((with_reducible refine (hmd _).mono ?_); rintro e w6 ⟨rfl, hw6⟩); (have hw7 := hw6.symm; clear hw6 hmd; subst hw7)))
  · go_ret
    exact ⟨rfl, H5.out.2⟩
  obtain ⟨g, rfl⟩ := HG.out h0
  have hn15 : n ≤ 15 := H3.out.2.2.1
  have H7 := Lib.hid (show Below w.heap.size w w5 ∧ SeesP w5 (· < w5.heap.size) (some ⟨g, 0, none⟩) (Ics L) from ⟨H5.out.2, H5.out.1⟩)
  obtain ⟨ad, hsf1, hsf2⟩ := sl_from g n c3 (k + 1) (by omega) HC3.out
  have HSF := Lib.hid (show (∀ w, (Instr.sliceAt 22 (.slice (some ⟨g, 0, none⟩) n c3) (some (.int .i64 ((k + 1 : Nat) : Int))) none none).run Tryd.prog w = .ok (.slice (some ad) (n - (k + 1)) (c3 - (k + 1))) w) ∧ (∀ c, SeesP c (· < c.heap.size) (some ⟨g, 0, none⟩) (Ics L) → ∀ j u, (Ics (L.drop (k + 1)))[j]? = some u → c.cell? (ad.add j) = some u) from ⟨hsf1, fun c h j u hu => drop_src HN.out HC3.out hsf2 h j u hu⟩)
  obtain ⟨x, hx⟩ : ∃ x, L[k]? = some x := ⟨_, List.getElem?_eq_getElem (by rw [HN.out]; exact hk)⟩
  have HMI0 := Lib.hid (misI_less H3.out.2.1 hx)
  have HRL := Lib.hid (show ∀ u, SeesP u (· < u.heap.size) (some ⟨g, 0, none⟩) (Ics L) → u.rangeAt g (k * 5) x.cs from fun u h => by
    obtain ⟨b, off, e, _, hr⟩ := im_at h hx
    injection e with e
    injection e with e1 e2
    subst e1 e2
    rwa [Nat.zero_add] at hr)
  have ixk := fun w => ix_x0 g n c3 k hk w
  clear hsf1 hsf2 hx
  refine region_src (by kernel_rfl) _ w5 (fun c => Below w5.heap.size w5 c) 8 3 (fun u c => HeldI w5 c u (L.take k)) (factL [fun u _ => u = .slice (some ⟨g, 0, none⟩) n c3, fun u _ => u = .int .i64 (k : Int), fun u _ => u = .slice (some ⟨g, 0, none⟩) k c3, fun _ _ => True, fun u _ => u = .slice (some ⟨g, 0, none⟩) n c3, fun u _ => u = .int .i64 (k : Int), fun u _ => u = .int .i64 ((k + 1 : Nat) : Int), fun u _ => u = .slice (some ad) (n - (k + 1)) (c3 - (k + 1)), HelI w5 (L.take k ++ L.drop (k + 1)), HelI w5 (L.take k ++ L.drop (k + 1))]) (by kernel_rfl) (firm_list (by simp only [List.forall_mem_cons]; exact ⟨firm_eq _, firm_eq _, firm_eq _, firm_true, firm_eq _, firm_eq _, firm_eq _, firm_eq _, HelI.firm _ _, HelI.firm _ _, fun X h => by cases h⟩)) (fun u c c2 h hb => HeldI.below h hb) (by decide) (fun c c2 h hb => below_on h hb) (Below.refl _ _) (Below.refl _ _) ?_ ?_
  · refine ops_all (allI.cons ?_ (allI.cons ?_ (allI.cons ?_ (allI.cons ?_ (allI.cons ?_ (allI.cons ?_ (allI.cons ?_ (allI.cons ?_ (allI.cons ?_ (allI.cons ?_ allI.nil)))))))))) <;> intro v S c a hI hw1 hYs hX hSi hdep hS hC
    · exact o_mv _ rfl (hS.old 6 rfl) (StepS.still rfl (by decide))
    · exact o_mv _ rfl (hS.old 7 rfl) (StepS.still rfl (by decide))
    · exact o_sl _ (.tmp 35) none (some (.tmp 36)) none rfl ((hS.get 0 (dep_at hdep 0 rfl) rfl rfl).trans (hX 0 (dep_at hdep 0 rfl))) rfl (congrArg some ((hS.get 1 (dep_at hdep 1 rfl) rfl rfl).trans (hX 1 (dep_at hdep 1 rfl)))) rfl (sl_to g n c3 k (by omega) HC3.out _) (StepS.still rfl (by decide))
    · refine wp_append_own _ (.const (.slice none 0 0)) (.tmp 37) 22 rfl w5.heap.size 44 i0 _ 5 40 Tryd.underlying22 hi hz0 hz1 hz2 rfl (by decide) (.slice none 0 0) 0 [] rfl (World.ownsRow_nil _ _ _ _) ⟨g, 0, none⟩ k c3 (Ics (L.take k)) ((hS.get 2 (dep_at hdep 2 rfl) rfl rfl).trans (hX 2 (dep_at hdep 2 rfl))) (by rw [Ics_len, List.length_take, HN.out]; omega) (fun j u hu => (SeesP.on2 H7.out.2 hI).src _ rfl j u (by rw [Ics_take] at hu; exact take_some hu)) (Ics_one _) (by unfold maxLen; omega) (by omega) hI.size ?_
      intro v' w' ho hg _
      refine StepS.new trivial (fun _ => ?_) ⟨hg.os, hg.tape, hg.output, hg.size, fun k hk => hg.block k hk (by simp [Value.ownBlock])⟩
      show HeldI w5 w' v' (L.take k)
      unfold HeldI
      rw [List.length_take, HN.out, Nat.min_eq_left (by omega)]
      rw [Nat.zero_add, List.nil_append] at ho
      exact ho
    · exact o_mv _ rfl (hS.old 6 rfl) (StepS.still rfl (by decide))
    · exact o_mv _ rfl (hS.old 7 rfl) (StepS.still rfl (by decide))
    · exact o_bin .add 3 3 (.tmp 40) (.const (.int .i64 1)) rfl ((hS.get 5 (dep_at hdep 5 rfl) rfl rfl).trans (hX 5 (dep_at hdep 5 rfl))) rfl (add_k1 k (by omega) _ _ _) (StepS.still rfl (by decide))
    · exact o_sl _ (.tmp 39) (some (.tmp 41)) none none rfl ((hS.get 4 (dep_at hdep 4 rfl) rfl rfl).trans (hX 4 (dep_at hdep 4 rfl))) (congrArg some ((hS.get 6 (dep_at hdep 6 rfl) rfl rfl).trans (hX 6 (dep_at hdep 6 rfl)))) rfl rfl (HSF.out.1 _) (StepS.still rfl (by decide))
    · have hy : HeldI w5 c (v 3) (L.take k) := hYs (dep_at hdep 3 rfl) hSi
      have hO := hy
      unfold HeldI at hO
      rw [List.length_take, HN.out, Nat.min_eq_left (by omega)] at hO
      refine wp_append_own _ (.tmp 38) (.tmp 42) 22 rfl w5.heap.size 44 i0 _ 5 40 Tryd.underlying22 hi hz0 hz1 hz2 rfl (by decide) (v 3) k (Ics (L.take k)) (hS.get 3 (dep_at hdep 3 rfl) rfl rfl) hO ad (n - (k + 1)) (c3 - (k + 1)) (Ics (L.drop (k + 1))) ((hS.get 7 (dep_at hdep 7 rfl) rfl rfl).trans (hX 7 (dep_at hdep 7 rfl))) (by rw [Ics_len, List.length_drop, HN.out]; omega) (fun j u hu => HSF.out.2 _ (SeesP.on2 H7.out.2 hI) j u hu) (Ics_one _) (by unfold maxLen; omega) (by omega) hI.size ?_
      intro v' w' ho hg _
      refine StepS.turn (show HeldI w5 w' v' (L.take k ++ L.drop (k + 1)) from ?_) (by decide) rfl (row_below hI hg fun q e => (own_lt3 hO q e).1) ?_
      · unfold HeldI
        rw [Ics_app, List.length_append, List.length_take, List.length_drop, HN.out, Nat.min_eq_left (by omega)]
        exact ho
      · intro j hj
        match j, hj with
        | 0, hj => exact hX 0 hj
        | 1, hj => exact hX 1 hj
        | 2, hj => exact hX 2 hj
        | 3, hj => trivial
        | 4, hj => exact hX 4 hj
        | 5, hj => exact hX 5 hj
        | 6, hj => exact hX 6 hj
        | 7, hj => exact hX 7 hj
        | 8, hj => rw [hSi] at hj; cases hj
        | 9, hj =>
          have := dep_at (hC 9 _ rfl hj) 8 rfl
          rw [hSi] at this
          cases this
        | _ + 10, _ => trivial
    · exact o_as _ rfl (hS.get 8 (dep_at hdep 8 rfl) rfl rfl) (StepS.still (hX 8 (dep_at hdep 8 rfl)) (by decide))
  · intro v c hI hX
    have e9 : HelI w5 (L.take k ++ L.drop (k + 1)) (v 9) c := hX 9 (by decide)
    unfold HelI at e9
    obtain ⟨A8, c8, e8, _, hs8⟩ := HeldI.slice e9
    obtain ⟨op, hop⟩ : ∃ z, L.take k ++ L.drop (k + 1) = z := ⟨_, rfl⟩
    rw [hop] at hs8 e8
    have HMI1 := HMI0.out
    rw [hop] at HMI1
    obtain ⟨lp, hlp⟩ : ∃ z, op.length = z := ⟨_, rfl⟩
    have hlb : lp ≤ 100 := by rw [← hlp, ← hop, List.length_append, List.length_take, List.length_drop, HN.out]; omega
    rw [hlp] at e8
    have H8 := Lib.hid (show SeesP c (· < c.heap.size) A8 (Ics op) ∧ SeesP c (· < c.heap.size) (some ⟨g, 0, none⟩) (Ics L) ∧ Below w.heap.size w c from ⟨hs8.imp newB_up, SeesP.on2 H7.out.2 hI, below_on H7.out.1 hI⟩)
    obtain ⟨p, hp⟩ : ∃ z, x.p = z := ⟨_, rfl⟩
    have HCL := Lib.hid (show ∀ u, SeesP u (· < u.heap.size) (some ⟨g, 0, none⟩) (Ics L) → u.cell? ⟨g, k * 5, none⟩ = some (.int .i64 p) from fun u h => by
      have := HRL.out u h 0 _ rfl
      rw [hp] at this
      exact this)
    obtain ⟨b2, hb2⟩ : ∃ z, (p == 2) = z := ⟨_, rfl⟩
    obtain ⟨b3, hb3⟩ : ∃ z, (p == 3) = z := ⟨_, rfl⟩
    have hpw : pwB x.p = (b2 || b3) := by
      rw [hp, ← hb2, ← hb3]
      unfold pwB
      by_cases h2 : p = 2 <;> by_cases h3 : p = 3 <;> simp [h2, h3]
    rw [hpw] at HMI1
    have HMI := Lib.hid (show ∀ u, Below w.heap.size w u → SeesP u (· < u.heap.size) A8 (Ics op) → SeesP u (· < u.heap.size) (some ⟨g, 0, none⟩) (Ics L) → Calls Tryd.prog 25 #[.slice A8 lp c8, .slice (some ⟨g, 0, none⟩) n c3] u (MisIs u (if (b2 || b3) = true then [x] else [])) from fun u hb h1 h2 => by
      rw [← HMI1]
      exact p_missing op L lp n hlp (by omega) HN.out (by omega) A8 (some ⟨g, 0, none⟩) c8 c3 u h1 h2)
    simp only [putAll, Act.put]
    simp
    rw [e8]
    clear hI hX e9 e8 hs8 hop HMI1 hlp hp hpw HMI0
    rcases b2 with _ | _
    · rcases b3 with _ | _
      · have HMJ := HMI
        clear HMI
        have HMI := Lib.hid (show ∀ u, Below w.heap.size w u → SeesP u (· < u.heap.size) A8 (Ics op) → SeesP u (· < u.heap.size) (some ⟨g, 0, none⟩) (Ics L) → Calls Tryd.prog 25 #[.slice A8 lp c8, .slice (some ⟨g, 0, none⟩) n c3] u (MisIs u []) from HMJ.out)
        clear HMJ
        go_wp2_with (first
          | (go_at_call 25; ((with_reducible refine (HMI.out _ H8.out.2.2 H8.out.1 H8.out.2.1).mono ?_); rintro e w9 ⟨A9, c9, rfl, hs9, hb⟩); have H9 := Lib.hid (show Below w.heap.size w w9 ∧ SeesP w9 (· < w9.heap.size) (some ⟨g, 0, none⟩) (Ics L) from ⟨below_on H8.out.2.2 hb, SeesP.on2 H8.out.2.1 hb⟩); have y12 := HCL.out _ H9.out.2; clear hs9 hb))
        refine wp_region_quiet_below (by kernel_rfl) (by kernel_rfl) ?_
        repeat (first | go_big_quiet_skip | (go_big_quiet_want; go_big_quiet_op; go_big_quiet_on))
        refine wpQuiet_nil ?_
        intro w10 hw7
        have HZ := Lib.hid (below_on H9.out.1 (below_of_regrown hw7))
        clear hw7
        go_wp2
        go_ret
        exact ⟨rfl, HZ.out⟩
      · have HMJ := HMI
        clear HMI
        have HMI := Lib.hid (show ∀ u, Below w.heap.size w u → SeesP u (· < u.heap.size) A8 (Ics op) → SeesP u (· < u.heap.size) (some ⟨g, 0, none⟩) (Ics L) → Calls Tryd.prog 25 #[.slice A8 lp c8, .slice (some ⟨g, 0, none⟩) n c3] u (MisIs u [x]) from HMJ.out)
        clear HMJ
        go_wp2_with (first
          | (go_at_call 25; ((with_reducible refine (HMI.out _ H8.out.2.2 H8.out.1 H8.out.2.1).mono ?_); rintro e w9 ⟨A9, c9, rfl, hs9, hb⟩); have H9 := Lib.hid (show Below w.heap.size w w9 ∧ SeesP w9 (· < w9.heap.size) (some ⟨g, 0, none⟩) (Ics L) ∧ SeesP w9 (· < w9.heap.size) A9 (Ics [x]) from ⟨below_on H8.out.2.2 hb, SeesP.on2 H8.out.2.1 hb, hs9.imp newB_up⟩); have y12 := HCL.out _ H9.out.2.1; clear hs9 hb))
        have HML := Lib.hid (show ∀ w', Below w9.heap.size w9 w' → w'.rangeAt g (k * 5) x.cs from fun w' hb => HRL.out _ (SeesP.on2 H9.out.2.1 hb))
        obtain ⟨b9, o9, rfl, hb9, hr9⟩ := im_at (j := 0) H9.out.2.2 rfl
        rw [Nat.zero_mul, Nat.add_zero] at hr9
        have HM9 := Lib.hid (show ∀ w', Below w9.heap.size w9 w' → w'.rangeAt b9 o9 x.cs from fun w' hb => rangeAt_on hr9 hb9 hb)
        clear hr9 hb9
        refine wp_region_quiet_below (by kernel_rfl) (by kernel_rfl) ?_
        repeat (first
         | ((with_reducible refine at_qload_ (d := 67) ?_); refine quiet_load_mid rfl _ _ rfl b9 o9 rfl x.cs _ (range_up fun w' hb => HM9.out _ hb) Tryd.underlying44 rfl (by rw [Im.cs_len]; exact size_x) ?_; simp only [Act.put]; simp)
         | ((with_reducible refine at_qload_ (d := 71) ?_); refine quiet_load_mid rfl _ _ rfl g (k * 5) rfl x.cs _ (range_up fun w' hb => HML.out _ hb) Tryd.underlying44 rfl (by rw [Im.cs_len]; exact size_x) ?_; simp only [Act.put]; simp)
         | ((with_reducible refine at_qany_ (d := 72) ?_); refine quiet_bin rfl .eql 44 44 (.tmp 67) (.tmp 71) rfl rfl rfl (fun w => (eql_info x x _ _ w).trans (by rw [eqI_iff.2 rfl])) ?_; simp only [Act.put]; simp)
         | go_big_quiet_skip | (go_big_quiet_want; go_big_quiet_op; go_big_quiet_on))
        refine wpQuiet_nil ?_
        intro p7
        have hw7 : ∃ p : Regrown, Go.Sort.grow (redrawn w9 p7.d) p7.os = Go.Sort.grow (redrawn w9 p.d) p.os := ⟨p7, rfl⟩
        generalize Go.Sort.grow (redrawn w9 p7.d) p7.os = w10 at hw7 ⊢
        have HZ := Lib.hid (below_on H9.out.1 (below_of_regrown hw7))
        clear hw7
        go_wp2
        go_ret
        exact ⟨rfl, HZ.out⟩
    · have HMJ := HMI
      clear HMI
      have HMI := Lib.hid (show ∀ u, Below w.heap.size w u → SeesP u (· < u.heap.size) A8 (Ics op) → SeesP u (· < u.heap.size) (some ⟨g, 0, none⟩) (Ics L) → Calls Tryd.prog 25 #[.slice A8 lp c8, .slice (some ⟨g, 0, none⟩) n c3] u (MisIs u [x]) from HMJ.out)
      clear HMJ
      go_wp2_with (first
        | (go_at_call 25; ((with_reducible refine (HMI.out _ H8.out.2.2 H8.out.1 H8.out.2.1).mono ?_); rintro e w9 ⟨A9, c9, rfl, hs9, hb⟩); have H9 := Lib.hid (show Below w.heap.size w w9 ∧ SeesP w9 (· < w9.heap.size) (some ⟨g, 0, none⟩) (Ics L) ∧ SeesP w9 (· < w9.heap.size) A9 (Ics [x]) from ⟨below_on H8.out.2.2 hb, SeesP.on2 H8.out.2.1 hb, hs9.imp newB_up⟩); have y12 := HCL.out _ H9.out.2.1; clear hs9 hb))
      have HML := Lib.hid (show ∀ w', Below w9.heap.size w9 w' → w'.rangeAt g (k * 5) x.cs from fun w' hb => HRL.out _ (SeesP.on2 H9.out.2.1 hb))
      obtain ⟨b9, o9, rfl, hb9, hr9⟩ := im_at (j := 0) H9.out.2.2 rfl
      rw [Nat.zero_mul, Nat.add_zero] at hr9
      have HM9 := Lib.hid (show ∀ w', Below w9.heap.size w9 w' → w'.rangeAt b9 o9 x.cs from fun w' hb => rangeAt_on hr9 hb9 hb)
      clear hr9 hb9
      refine wp_region_quiet_below (by kernel_rfl) (by kernel_rfl) ?_
      repeat (first
       | ((with_reducible refine at_qload_ (d := 67) ?_); refine quiet_load_mid rfl _ _ rfl b9 o9 rfl x.cs _ (range_up fun w' hb => HM9.out _ hb) Tryd.underlying44 rfl (by rw [Im.cs_len]; exact size_x) ?_; simp only [Act.put]; simp)
       | ((with_reducible refine at_qload_ (d := 71) ?_); refine quiet_load_mid rfl _ _ rfl g (k * 5) rfl x.cs _ (range_up fun w' hb => HML.out _ hb) Tryd.underlying44 rfl (by rw [Im.cs_len]; exact size_x) ?_; simp only [Act.put]; simp)
       | ((with_reducible refine at_qany_ (d := 72) ?_); refine quiet_bin rfl .eql 44 44 (.tmp 67) (.tmp 71) rfl rfl rfl (fun w => (eql_info x x _ _ w).trans (by rw [eqI_iff.2 rfl])) ?_; simp only [Act.put]; simp)
       | go_big_quiet_skip | (go_big_quiet_want; go_big_quiet_op; go_big_quiet_on))
      refine wpQuiet_nil ?_
      intro p7
      have hw7 : ∃ p : Regrown, Go.Sort.grow (redrawn w9 p7.d) p7.os = Go.Sort.grow (redrawn w9 p.d) p.os := ⟨p7, rfl⟩
      generalize Go.Sort.grow (redrawn w9 p7.d) p7.os = w10 at hw7 ⊢
      have HZ := Lib.hid (below_on H9.out.1 (below_of_regrown hw7))
      clear hw7
      go_wp2
      go_ret
      exact ⟨rfl, HZ.out⟩
end Go.Proofs.YtmkggpgpiepjfaaDoor
