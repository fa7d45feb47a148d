/-
  What is proved here: the first error of templates that the program finds; which of them may be used, by the program and by the reference.
-/
import Derived.Test.YtobbnedojmcgoaaB2
import Derived.Deep.DeepMust
namespace Go.Proofs.Ytobbnedojmcgoaa
open Go.RowKit
set_option linter.unusedVariables false
set_option linter.unusedSimpArgs false

theorem at_any_ {P : Program} {ops : Array Oper} {rest : List Oper} {a : Act} {w : World} {Q : Exit → Act → World → Prop} {d : Nat} {op : Op} {t : TypeId} {ps : String} {af : Array Edge} {gd : Option (Nat × Bool)} (h : wpList P ops Q (⟨some d, op, t, ps, af, gd⟩ :: rest) a w) : wpList P ops Q (⟨some d, op, t, ps, af, gd⟩ :: rest) a w := h
theorem at_call_ {P : Program} {ops : Array Oper} {rest : List Oper} {a : Act} {w : World} {Q : Exit → Act → World → Prop} {d : Nat} {x : Call} {t : TypeId} {ps : String} {af : Array Edge} {gd : Option (Nat × Bool)} (h : wpList P ops Q (⟨some d, .call x, t, ps, af, gd⟩ :: rest) a w) : wpList P ops Q (⟨some d, .call x, t, ps, af, gd⟩ :: rest) a w := h
theorem at_box_ {P : Program} {ops : Array Oper} {rest : List Oper} {a : Act} {w : World} {Q : Exit → Act → World → Prop} {d : Nat} {x : Operand} {ty t : TypeId} {ps : String} {af : Array Edge} {gd : Option (Nat × Bool)} (h : wpList P ops Q (⟨some d, .box ty x, t, ps, af, gd⟩ :: rest) a w) : wpList P ops Q (⟨some d, .box ty x, t, ps, af, gd⟩ :: rest) a w := h
def zerT : List Value := [.int .i64 0, .int .i64 0, .int .i64 0, .int .i64 0, .int .i64 0, .int .i64 0, .slice none 0 0]
theorem info_t : (Try.prog.info? 27).map (·.zero) = some (some (.agg zerT.toArray)) := by kernel_rfl
theorem size_t : (Try.prog.info? 27).map (·.size) = some 7 := by kernel_rfl
theorem cs_one (x : Tm) (A : Option Addr) (c : Nat) : ∀ u ∈ x.cs A c, u.oneCell' = true := by
  intro u hu
  simp only [Tm.cs, List.mem_cons, List.not_mem_nil, or_false] at hu
  rcases hu with rfl | rfl | rfl | rfl | rfl | rfl | rfl <;> rfl

set_option maxHeartbeats 1600000 in
theorem p_check (l : List Tm) (n : Nat) (hn : l.length = n) (A : Option Addr) (c : Nat) (w : World) (hs : SeesT w (· < w.heap.size) A l) :
    Calls Try.prog 30 #[.slice A n c] w fun e w' => e = .returned (.int .i64 (encE l)) ∧ Below w.heap.size w w' := by
  by_cases h0 : n = 0
  · have hv : encE l = 2 := by unfold encE; rw [if_pos (by omega)]
    rw [hv]
    subst h0
    clear hs hn hv
    go_enter Try.func30, Try.ntmps30
    go_wp2
    go_ret
    exact ⟨rfl, Below.refl _ _⟩
  have d0 : ((n : Int) == 0) = false := by simp; omega
  by_cases h8 : 8 < n
  · have d8 : decide ((8 : Int) < (n : Int)) = true := by simp; omega
    have hv : encE l = 2 := by unfold encE; rw [if_pos (by omega)]
    rw [hv]
    clear hs hn hv h0 h8
    go_enter Try.func30, Try.ntmps30
    go_wp2
    go_ret
    exact ⟨rfl, Below.refl _ _⟩
  have d8 : decide ((8 : Int) < (n : Int)) = false := by simp; omega
  have hv : encE l = chkT l := by unfold encE; rw [if_neg (by omega)]
  rw [hv]
  have HS := Lib.hid hs
  have HN := Lib.hid hn
  have hn8 : n ≤ 8 := by omega
  clear hs hn hv h0 h8
  go_enter Try.func30, Try.ntmps30
  go_wp2
  go_loopw [16] (fun i wr => ∃ (j : Nat), j ≤ n ∧ i = .int .i64 (j : Int) ∧ Hid (Below w.heap.size w wr ∧ chkT (l.drop j) = chkT l)) (fun i _ => n - (intOf i).toNat)
  case atStart => exact ⟨0, by omega, rfl, Lib.hid ⟨Below.refl _ _, rfl⟩⟩
  case round =>
    obtain ⟨j, hj, rfl, HR⟩ := hrel
    by_cases hlt : j < n
    · have dj : decide ((j : Int) < (n : Int)) = true := by simp; omega
      obtain ⟨x, hx⟩ : ∃ x, l[j]? = some x := ⟨_, List.getElem?_eq_getElem (by rw [HN.out]; exact hlt)⟩
      obtain ⟨b, off, Ad, cd, rfl, hb, hr, _⟩ := tm_at HS.out hx
      have hr2 := fun cur (h : Below w.heap.size w cur) => rangeAt_on hr hb h
      obtain ⟨v, hvv⟩ : ∃ v, vT x = v := ⟨_, rfl⟩
      have hstep := chkT_drop hx
      have hval := fun w => p_valid x Ad cd w
      rw [hvv] at hstep hval
      obtain ⟨us, hus⟩ : ∃ us, x.cs Ad cd = us := ⟨_, rfl⟩
      have hu7 : us.length = 7 := by rw [← hus]; rfl
      have hu1 : ∀ u ∈ us, u.oneCell' = true := by rw [← hus]; exact cs_one _ _ _
      rw [hus] at hr2 hval
      have HU := Lib.hid (show _ ∧ _ ∧ _ ∧ _ from ⟨hr2, hval, hu7, hu1⟩)
      have HB := Lib.hid HR.out.1
      clear hr hr2 hval hu7 hu1 hvv hx hus
      by_cases h : v = 0
      · subst h
        have HC := Lib.hid (show chkT (l.drop (j + 1)) = chkT l from by rw [← HR.out.2, hstep, if_pos rfl])
        clear hstep
        go_wp2_with (first
          | ((with_reducible refine at_load_ (d := 19) ?_); refine wpList_load_mid rfl 27 (.tmp 18) rfl b (off + j * 7) rfl us _ (HU.out.1 _ HB.out) Try.underlying27 rfl (by rw [HU.out.2.2.1]; exact size_t) ?_)
          | ((with_reducible refine at_alloc_ (d := 4) ?_); refine wpList_alloc_v (op := ⟨some 4, _, _, _, _, _⟩) rfl 27 rfl zerT info_t ?_; intro g4 w4 hf hr; have HG := Lib.hid (show _ ∧ _ ∧ _ from ⟨hf.bl HB.out, hr, hf.ge HB.out⟩); clear hf hr)
          | ((with_reducible refine at_store_ (i := 4) ?_); refine wpList_store_v rfl 27 (.tmp 4) (.tmp 19) rfl g4 zerT us rfl rfl HG.out.2.1 HU.out.2.2.1 HU.out.2.2.2 (by rw [HU.out.2.2.1]; exact size_t) ?_; intro w5 hw hr; have HG5 := Lib.hid (show _ ∧ _ from ⟨Wr.bl HG.out.1 hw HG.out.2.2, hr⟩); clear hw hr)
          | ((with_reducible refine at_load_ (d := 20) ?_); refine wpList_load_v rfl 27 (.tmp 4) rfl g4 rfl us _ HG5.out.2 Try.underlying27 rfl (by rw [HU.out.2.2.1]; exact size_t) ?_)
          | (go_at_call 7; ((with_reducible refine (HU.out.2.1 _).mono ?_); rintro e w6 ⟨rfl, hb⟩); have HG6 := Lib.hid (below_on HG5.out.1 hb); clear hb))
        go_roundw
        case rel => exact ⟨j + 1, by omega, by go_num, Lib.hid ⟨HG6.out, HC.out⟩⟩
        case measure => simp [intOf]; omega
      · have dv : (v != 0) = true := by simpa using h
        have HC := Lib.hid (show chkT l = v from by rw [← HR.out.2, hstep, if_neg h])
        clear hstep
        go_wp2_with (first
          | ((with_reducible refine at_load_ (d := 19) ?_); refine wpList_load_mid rfl 27 (.tmp 18) rfl b (off + j * 7) rfl us _ (HU.out.1 _ HB.out) Try.underlying27 rfl (by rw [HU.out.2.2.1]; exact size_t) ?_)
          | ((with_reducible refine at_alloc_ (d := 4) ?_); refine wpList_alloc_v (op := ⟨some 4, _, _, _, _, _⟩) rfl 27 rfl zerT info_t ?_; intro g4 w4 hf hr; have HG := Lib.hid (show _ ∧ _ ∧ _ from ⟨hf.bl HB.out, hr, hf.ge HB.out⟩); clear hf hr)
          | ((with_reducible refine at_store_ (i := 4) ?_); refine wpList_store_v rfl 27 (.tmp 4) (.tmp 19) rfl g4 zerT us rfl rfl HG.out.2.1 HU.out.2.2.1 HU.out.2.2.2 (by rw [HU.out.2.2.1]; exact size_t) ?_; intro w5 hw hr; have HG5 := Lib.hid (show _ ∧ _ from ⟨Wr.bl HG.out.1 hw HG.out.2.2, hr⟩); clear hw hr)
          | ((with_reducible refine at_load_ (d := 20) ?_); refine wpList_load_v rfl 27 (.tmp 4) rfl g4 rfl us _ HG5.out.2 Try.underlying27 rfl (by rw [HU.out.2.2.1]; exact size_t) ?_)
          | (go_at_call 7; ((with_reducible refine (HU.out.2.1 _).mono ?_); rintro e w6 ⟨rfl, hb⟩); have HG6 := Lib.hid (below_on HG5.out.1 hb); clear hb))
        go_ret
        exact ⟨by rw [HC.out]; rfl, HG6.out⟩
    · obtain rfl : j = n := by omega
      have dj : decide ((j : Int) < (j : Int)) = false := by simp
      have HC := Lib.hid (show chkT l = 0 from by rw [← HR.out.2, List.drop_of_length_le (by rw [HN.out]; exact Nat.le_refl _)]; rfl)
      have HB := Lib.hid HR.out.1
      clear HR
      go_wp2
      go_ret
      exact ⟨by rw [HC.out]; rfl, HB.out⟩
end Go.Proofs.Ytobbnedojmcgoaa
