/-
  What is proved here: when two infos, and two lists of infos, are the same.
-/
import Derived.Test.YtcapbojjceeapaaDoorWG14
import Derived.Laws.StructEq
import Derived.Test.YtcapbojjceeapaaDoorWG15
import Derived.Test.YtcapbojjceeapaaDoorWJk
import Derived.Test.YtcapbojjceeapaaDoorWG11
namespace Go.Proofs.YtcapbojjceeapaaDoor
open Go.RowKit
set_option maxRecDepth 8000
set_option linter.unusedVariables false
set_option linter.unusedSimpArgs false
theorem eqIn_info (x y : Im) (w : World) : (Op.equalIn 10000 44 (.agg x.cs.toArray) (.agg y.cs.toArray)).run Tryd.prog w = .ok (eqI x y) w := by
  obtain ⟨a, b, c, d, e⟩ := x
  obtain ⟨a', b', c', d', e'⟩ := y
  show (Op.equalIn 10000 44 (.agg #[.int .i64 a, .int .i64 b, .int .i64 c, .int .i64 d, .int .i64 e]) (.agg #[.int .i64 a', .int .i64 b', .int .i64 c', .int .i64 d', .int .i64 e'])).run Tryd.prog w = .ok (eqI ⟨a, b, c, d, e⟩ ⟨a', b', c', d', e'⟩) w
  have hS : Tryd.prog.underlying 44 = some (.struct (Tryd.prog.fieldsOf 44)) := by kernel_rfl
  rw [show (10000 : Nat) = 9999 + 1 from rfl, run_equalIn_agg w 9999 44 _ _ hS (by kernel_rfl)]
  simp only [Program.fieldsOf, Tryd.underlying44]
  have u3 := Tryd.underlying3
  go_simp
  by_cases h1 : a = a' <;> by_cases h2 : b = b' <;> by_cases h3 : c = c' <;> by_cases h4 : d = d' <;> by_cases h5 : e = e' <;> simp [eqI, h1, h2, h3, h4, h5]
theorem eql_info (x y : Im) (p q : Operand) (w : World) : (do eqGuard .eql 44 p q (.agg x.cs.toArray) (.agg y.cs.toArray); binOp .eql 44 (.agg x.cs.toArray) (.agg y.cs.toArray)).run Tryd.prog w = .ok (.bool (eqI x y)) w := by
  rw [Sem.run_bind, run_eqGuard_agg w .eql 44 p q _ _ (by kernel_rfl), Result.andThen_ok, run_eql_struct, eqIn_info]
  rfl
theorem neq_info (x y : Im) (p q : Operand) (w : World) : (do eqGuard .neq 44 p q (.agg x.cs.toArray) (.agg y.cs.toArray); binOp .neq 44 (.agg x.cs.toArray) (.agg y.cs.toArray)).run Tryd.prog w = .ok (.bool (!eqI x y)) w := by
  rw [Sem.run_bind, run_eqGuard_agg w .neq 44 p q _ _ (by kernel_rfl), Result.andThen_ok, run_neq_struct, eqIn_info]
  rfl
set_option maxHeartbeats 3200000 in
theorem r_isame (l : List Im) (n : Nat) (hn : l.length = n) (hn2 : n ≤ 140737488351232) (A B : Option Addr) (ca cb : Nat) (w : World) (ha : SeesP w (· < w.heap.size) A (Ics l)) (hb : SeesP w (· < w.heap.size) B (Ics l)) :
    Calls Tryd.prog 16 #[.slice A n ca, .slice B n cb] w fun e w' => e = .returned (.bool true) ∧ Below w.heap.size w w' := by
  have HS := Lib.hid (show _ ∧ _ ∧ _ from ⟨ha, hb, hn⟩)
  have hne : ((n : Int) != (n : Int)) = false := by simp
  clear ha hb hn
  go_enter Tryd.func16, Tryd.ntmps16
  go_wp2_with fail
  go_loopw [5] (fun i wr => ∃ (j : Nat), j ≤ n ∧ i = .int .i64 (j : Int) ∧ Hid (Below w.heap.size w wr)) (fun i _ => n - (intOf i).toNat)
  case atStart => exact ⟨0, by omega, rfl, Lib.hid (Below.refl _ _)⟩
  case round =>
    obtain ⟨j, hj, rfl, HBW⟩ := hrel
    by_cases hlt : j < n
    · have dj : decide ((j : Int) < (n : Int)) = true := by simp; omega
      obtain ⟨x, hx⟩ : ∃ x, l[j]? = some x := ⟨_, List.getElem?_eq_getElem (by rw [HS.out.2.2]; exact hlt)⟩
      obtain ⟨ab, ao, rfl, hb1, hr1⟩ := im_at HS.out.1 hx
      obtain ⟨bb, bo, rfl, hb2, hr2⟩ := im_at HS.out.2.1 hx
      have HK := Lib.hid (show (∀ cur, Below w.heap.size w cur → cur.rangeAt ab (ao + j * 5) x.cs) ∧ (∀ cur, Below w.heap.size w cur → cur.rangeAt bb (bo + j * 5) x.cs) from ⟨fun cur h => rangeAt_on hr1 hb1 h, fun cur h => rangeAt_on hr2 hb2 h⟩)
      clear hx hb1 hr1 hb2 hr2
      go_wp2_with fail
      refine region_facts (by kernel_rfl) _ wr (fun c => Below wr.heap.size wr c) 100 (factL [fun u _ => u = .slice (some ⟨ab, ao, none⟩) n ca, fun u _ => u = .int .i64 (j : Int), fun u _ => u = .pointer (some ⟨ab, ao + j * 5, none⟩), fun u _ => u = .agg x.cs.toArray, fun u _ => u = .slice (some ⟨bb, bo, none⟩) n cb, fun u _ => u = .int .i64 (j : Int), fun u _ => u = .pointer (some ⟨bb, bo + j * 5, none⟩), fun u _ => u = .agg x.cs.toArray, fun u _ => u = .bool false]) (by kernel_rfl) (firm_list (by simp only [List.forall_mem_cons]; exact ⟨firm_eq _, firm_eq _, firm_eq _, firm_eq _, firm_eq _, firm_eq _, firm_eq _, firm_eq _, firm_eq _, fun X h => by cases h⟩)) (fun c c2 h hb => below_on h hb) (Below.refl _ _) (Below.refl _ _) ?_ ?_
      · refine ops_all (allI.cons ?_ (allI.cons ?_ (allI.cons ?_ (allI.cons ?_ (allI.cons ?_ (allI.cons ?_ (allI.cons ?_ (allI.cons ?_ (allI.cons ?_ allI.nil))))))))) <;> intro v S c a hI hw1 hX hSi hdep hS hC
        · exact o_mv _ rfl (hS.old 0 rfl) (Step.still rfl)
        · exact o_mv _ rfl (hS.old 5 rfl) (Step.still rfl)
        · exact o_ix _ (.tmp 17) (.tmp 18) rfl ((hS.get 0 (dep_at hdep 0 rfl) rfl rfl).trans (hX 0 (dep_at hdep 0 rfl))) ((hS.get 1 (dep_at hdep 1 rfl) rfl rfl).trans (hX 1 (dep_at hdep 1 rfl))) (ix_x ab ao n ca j hlt _) (Step.still rfl)
        · exact wp_load_mid 44 (.tmp 19) rfl ab (ao + j * 5) ((hS.get 2 (dep_at hdep 2 rfl) rfl rfl).trans (hX 2 (dep_at hdep 2 rfl))) x.cs _ (HK.out.1 _ (below_on HBW.out hI)) Tryd.underlying44 rfl (by rw [Im.cs_len]; exact size_x) (Step.still rfl)
        · exact o_mv _ rfl (hS.old 1 rfl) (Step.still rfl)
        · exact o_mv _ rfl (hS.old 5 rfl) (Step.still rfl)
        · exact o_ix _ (.tmp 21) (.tmp 22) rfl ((hS.get 4 (dep_at hdep 4 rfl) rfl rfl).trans (hX 4 (dep_at hdep 4 rfl))) ((hS.get 5 (dep_at hdep 5 rfl) rfl rfl).trans (hX 5 (dep_at hdep 5 rfl))) (ix_x bb bo n cb j hlt _) (Step.still rfl)
        · exact wp_load_mid 44 (.tmp 23) rfl bb (bo + j * 5) ((hS.get 6 (dep_at hdep 6 rfl) rfl rfl).trans (hX 6 (dep_at hdep 6 rfl))) x.cs _ (HK.out.2 _ (below_on HBW.out hI)) Tryd.underlying44 rfl (by rw [Im.cs_len]; exact size_x) (Step.still rfl)
        · exact o_bin .neq 44 44 (.tmp 20) (.tmp 24) rfl ((hS.get 3 (dep_at hdep 3 rfl) rfl rfl).trans (hX 3 (dep_at hdep 3 rfl))) ((hS.get 7 (dep_at hdep 7 rfl) rfl rfl).trans (hX 7 (dep_at hdep 7 rfl))) ((neq_info x x _ _ _).trans (by rw [eqI_iff.2 rfl]; rfl)) (Step.still rfl)
      · intro v c hI hX
        have e8 : v 8 = .bool false := hX 8 (by decide)
        have HQ := Lib.hid (below_on HBW.out hI)
        clear hI hX
        simp only [putAll, Act.put]
        simp
        rw [e8]
        clear e8
        go_wp2
        go_roundw
        case rel => exact ⟨j + 1, by omega, by first | rfl | go_num, Lib.hid HQ.out⟩
        case measure => simp [intOf]; omega
    · obtain rfl : j = n := by omega
      have dj : decide ((j : Int) < (j : Int)) = false := by simp
      have HE := Lib.hid HBW.out
      clear HBW
      go_wp2
      go_ret
      exact ⟨rfl, HE.out⟩
set_option maxRecDepth 8000
set_option linter.unusedVariables false
set_option linter.unusedSimpArgs false
def x5 : Im := ⟨5, 2, 0, 0, 0⟩
theorem awk_e : seE [x5] = 0 := by kernel_rfl
theorem awk_l : (seB [x5]).length = 18 := by kernel_rfl
theorem awk_d : deE (parse true (seB [x5])) = 0 := by kernel_rfl
theorem awk_q : deL (parse true (seB [x5])) = [x5] := by kernel_rfl
theorem peb2 {a : Act} {x0 x1 : Operand} {u0 u1 : Value} (h0 : a.eval x0 = u0) (h1 : a.eval x1 = u1) : ((#[(0, x0), (1, x1)] : Array (Nat × Operand)).map fun (i, x) => (i, a.eval x)).toList = [(0, u0), (1, u1)] := by simp [h0, h1]
theorem bldI2 : Tryd.prog.built 44 [(0, .int .i64 5), (1, .int .i64 2)] = some x5.cs.toArray := by kernel_rfl
theorem one_im {w : World} {p : Nat → Prop} {g : Nat} {x : Im} (h : RowV w g x.cs) (hp : p g) : SeesP w p (some ⟨g, 0, none⟩) (Ics [x]) := by
  refine .inr ⟨g, 0, rfl, hp, fun j hj => ?_⟩
  rw [Nat.zero_add, h.cell]
  rfl
set_option maxHeartbeats 1600000 in
set_option maxRecDepth 20000 in
theorem law_awake (w : World) (ht : TabX w) : Calls Tryd.prog 12 #[] w fun e w' => e = .returned (.bool true) ∧ Below w.heap.size w w' := by
  have HT := Lib.hid ht
  have HEN : Hid (∀ A c w, SeesP w (· < w.heap.size) A (Ics [x5]) → TabX w → Calls Tryd.prog 8 #[.slice A 1 c] w fun e w' => ∃ A' c', e = .returned (.tuple #[.slice A' 18 c', .int .i64 0]) ∧ SeesP w' (· < w'.heap.size) A' (Us (seB [x5])) ∧ Below w.heap.size w w' ∧ 18 ≤ c') := Lib.hid fun A c w hs ht => by
    refine (p_encode [x5] 1 rfl (by decide) A c w hs ht).mono fun e w' h => ?_
    obtain ⟨A', c', h1, h2, h3, h4⟩ := h
    rw [awk_l, awk_e] at h1
    rw [awk_l] at h4
    exact ⟨A', c', h1, h2.imp fun b hb => hb.2, h3, h4⟩
  have HDE : Hid (∀ A c w, 18 ≤ c → SeesP w (· < w.heap.size) A (Us (seB [x5])) → TabX w → Calls Tryd.prog 10 #[.slice A 18 c] w fun e w' => ∃ b o c', e = .returned (.tuple #[.slice (some ⟨b, o, none⟩) 1 c', .int .i64 0]) ∧ w'.cell? ⟨b, o + 1, none⟩ = some (.int .i64 2) ∧ Below w.heap.size w w') := Lib.hid fun A c w hc hs ht => by
    refine (p_decode (seB [x5]) 18 awk_l (by decide) A c hc w hs ht).mono fun e w' h => ?_
    obtain ⟨A', c', h1, h2, h3, h4⟩ := h
    rw [awk_q, awk_d] at h1
    rw [awk_q] at h3
    obtain ⟨b, o, rfl, hb, hr⟩ := im_at (j := 0) h3 rfl
    exact ⟨b, o, c', h1, by have := hr 1 _ rfl; rwa [Nat.zero_mul, Nat.add_zero] at this, h4⟩
  clear ht
  go_enter Tryd.func12, Tryd.ntmps12
  go_wp2_with (first
    | ((with_reducible refine at_any_ (d := 6) ?_); go_must (refine wpList_bldI rfl 44 _ rfl (peb2 rfl rfl) bldI2 ?_))
    | ((with_reducible refine at_any_ (d := 7) ?_); go_must (refine wpList_bslV rfl 22 44 1 _ rfl Tryd.underlying22 (pe1 rfl) (bsx x5) ?_); intro g1 w1 hf hr; have H1 := Lib.hid (show Below w.heap.size w w1 ∧ SeesP w1 (· < w1.heap.size) (some ⟨g1, 0, none⟩) (Ics [x5]) from ⟨hf.bw, one_im hr hr.lt⟩); clear hf hr)
    | (go_at_call 8; ((with_reducible refine (HEN.out _ _ _ H1.out.2 (HT.out.on H1.out.1)).mono ?_); rintro e w2 ⟨A2, c2, rfl, hs, hb, hc⟩); have H2 := Lib.hid (show Below w.heap.size w w2 ∧ SeesP w2 (· < w2.heap.size) A2 (Us (seB [x5])) ∧ 18 ≤ c2 from ⟨below_on H1.out.1 hb, hs, hc⟩); clear hs hb hc)
    | (go_at_call 10; ((with_reducible refine (HDE.out _ _ _ H2.out.2.2 H2.out.2.1 (HT.out.on H2.out.1)).mono ?_); rintro e w3 ⟨b3, o3, c3, rfl, y1, hb⟩); have H3 := Lib.hid (below_on H2.out.1 hb); clear hb))
  go_ret
  exact ⟨rfl, H3.out⟩
set_option maxRecDepth 8000
set_option linter.unusedVariables false
set_option linter.unusedSimpArgs false
end Go.Proofs.YtcapbojjceeapaaDoor
