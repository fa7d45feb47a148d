/-
  What is proved here: whether the library's strings.ContainsRune finds a rune in a text, for short texts in which no byte comes so often that the library would turn to another search.
-/
import Derived.Test.YtfkcnbcifidlgaaDoorOsr
import Derived.Lib.Bytealg
import Derived.ScopeJumps
import Derived.WalkMore
import Derived.Control
namespace Go.Proofs.YtfkcnbcifidlgaaDoor
open Go.RowKit

/-- a scope out of which the run may jump forward to one label, once -/
theorem scope_fwd {P : Program} {a : Act} {w : World} {Q : Exit → Act → World → Prop} {c rest : Code} (l : Nat) (hf : findLabel c l = some rest)
    (h : c.wp P (Exit.jump l (fun a w => rest.wp P (Exit.noGoto Q) a w) Q) a w) : (Code.scope c).wp P Q a w :=
  wp_scope_jumps l (fun a w => rest.wp P (Exit.noGoto Q) a w) (fun _ _ => 0) hf h fun a w hJ => wp_mono hJ fun e a' w' hq => by
    cases e with
    | goto l' => exact hq.elim
    | _ => exact hq
/-- y stands in x at place j -/
def oc (x y : List UInt8) (j : Nat) : Prop := j + y.length ≤ x.length ∧ ∀ t, t < y.length → cB x (j + t) = cB y t
/-- no byte comes too often -/
def fewB (x : List UInt8) : Prop := ∀ (b : UInt8) (i : Nat), b.toNat < 192 → i ≤ x.length → (x.take i).count b ≤ (i + 16) / 8

section
variable {Q : Exit → Act → World → Prop} {J N : Act → World → Prop} {a : Act} {w : World} {id l : Nat}
theorem xB_n : Exit.inBlock id Q .normal a w = Q .normal a w := rfl
theorem xB_r : Exit.inBlock id Q .ret a w = Q .ret a w := rfl
theorem xT_n : Exit.then N Q .normal a w = N a w := rfl
theorem xT_r : Exit.then N Q .ret a w = Q .ret a w := rfl
theorem xJ_n : Exit.jump l J Q .normal a w = Q .normal a w := rfl
theorem xJ_r : Exit.jump l J Q .ret a w = Q .ret a w := rfl
end
open Lean Elab Tactic Meta in
elab "go_hbeta" : tactic => withMainContext do
  let g ← getMainGoal
  let t := (← instantiateMVars (← g.getType)).consumeMData
  replaceMainGoal [← g.replaceTargetDefEq t.headBeta]
/-- out of the blocks and scopes -/
macro "go_leave" : tactic => `(tactic| ((repeat (first | go_big_open | rw [xB_n] | rw [xB_r] | rw [xT_n] | rw [xT_r] | rw [xJ_r] | rw [xJ_n] | rw [Exit.noGoto_normal] | rw [Exit.noGoto_ret])); go_hbeta))

theorem ib_none {x : List UInt8} {c : UInt8} (h : c ∉ x) : Lib.indexByte x c = -1 := by
  induction x with
  | nil => rfl
  | cons b l ih =>
    simp only [List.mem_cons, not_or] at h
    unfold Lib.indexByte
    rw [if_neg (by simpa using fun e => h.1 e.symm), ih h.2]
    rfl
theorem ib_some {x : List UInt8} {c : UInt8} (h : c ∈ x) : ∃ o : Nat, Lib.indexByte x c = o ∧ o < x.length ∧ cB x o = (c.toNat : Int) ∧ ∀ j, j < o → cB x j ≠ (c.toNat : Int) := by
  induction x with
  | nil => simp at h
  | cons b l ih =>
    unfold Lib.indexByte
    by_cases e : b = c
    · rw [if_pos (by simp [e])]
      exact ⟨0, rfl, by simp, by rw [← e]; rfl, fun j hj => by omega⟩
    · rw [if_neg (by simpa using e)]
      have h2 : c ∈ l := by
        rcases List.mem_cons.1 h with h | h
        · exact absurd h.symm e
        · exact h
      obtain ⟨o, h3, h4, h5, h6⟩ := ih h2
      rw [h3, if_neg (by simp)]
      refine ⟨o + 1, by omega, by simp; omega, h5, fun j hj => ?_⟩
      cases j with
      | zero => intro e2; exact e (UInt8.toNat_inj.1 (Int.ofNat_inj.1 e2))
      | succ j => exact h6 j (by omega)
theorem ib_ge {x : List UInt8} {c : UInt8} : c ∈ x ↔ ∃ j, j < x.length ∧ cB x j = (c.toNat : Int) := by
  constructor
  · intro h
    obtain ⟨o, _, h1, h2, _⟩ := ib_some h
    exact ⟨o, h1, h2⟩
  · intro ⟨j, h1, h2⟩
    rw [cB_get h1] at h2
    have := UInt8.toNat_inj.1 (Int.ofNat_inj.1 h2)
    rw [← this]; exact List.getElem_mem h1

theorem str_at (s : ByteArray) (x : List UInt8) (hx : s = S x) (z : Int) (k : Nat) (hz : z = k) (hk : k < x.length) (w : World) : (Instr.index 9 (.string s) (.int .i64 z)).run Tryd.prog w = .ok (.int .u8 (cB x k)) w := by
  have hl : s.size = x.length := by rw [hx, S_size]
  subst hz
  rw [run_index_string w 9 s .i64 _ Tryd.underlying9, dif_pos (by omega)]
  have := s_at hx k (by omega)
  simp only [Int.toNat_natCast]
  rw [this]
theorem str_from (s : ByteArray) (i : Nat) (h : i < s.size) (w : World) : (Instr.slice 9 (.string s) (some (.int .i64 ((i : Int) + 1))) none none).run Tryd.prog w = .ok (.string (s.extract (i + 1) s.size)) w :=
  run_slice_string_l w 9 s Tryd.underlying9 .i64 ((i : Int) + 1) (by omega) (by omega)

/-- the walk: at i there is no instance yet, and the byte b was met f times -/
def NI (x y : List UInt8) (l : Nat) (b : UInt8) (i f : Nat) : Prop := l ≤ i ∧ f ≤ (x.take i).count b ∧ ∀ j, j + l < i → ¬ oc x y j
theorem count_mono (x : List UInt8) (b : UInt8) {i j : Nat} (h : i ≤ j) : (x.take i).count b ≤ (x.take j).count b := by
  have : x.take i = (x.take j).take i := by rw [List.take_take, Nat.min_eq_left h]
  rw [this]
  exact (List.take_sublist _ _).count_le _
section
variable {x y : List UInt8} {l : Nat} {b : UInt8} {i f : Nat}
theorem NI.skip (h : NI x y l b i f) (hl : y.length = l + 1) (hb : cB y l = (b.toNat : Int)) {k : Nat} (hk : i ≤ k) (hn : ∀ j, i ≤ j → j < k → cB x j ≠ (b.toNat : Int)) : NI x y l b k f := by
  obtain ⟨h1, h2, h3⟩ := h
  refine ⟨by omega, Nat.le_trans h2 (count_mono x b hk), fun j hj ho => ?_⟩
  rcases Nat.lt_or_ge (j + l) i with c | c
  · exact h3 j c ho
  · exact hn (j + l) c hj (by rw [ho.2 l (by omega), hb])
theorem NI.none (h : NI x y l b i f) (hl : y.length = l + 1) (hb : cB y l = (b.toNat : Int)) (hn : ∀ j, i ≤ j → j < x.length → cB x j ≠ (b.toNat : Int)) : ¬ ∃ j, oc x y j := by
  intro ⟨j, ho⟩
  rcases Nat.lt_or_ge (j + l) i with c | c
  · exact h.2.2 j c ho
  · exact hn (j + l) c (by have := ho.1; omega) (by rw [ho.2 l (by omega), hb])
theorem NI.next (h : NI x y l b i f) (hi : i < x.length) (hm : cB x i = (b.toNat : Int)) (hno : ¬ oc x y (i - l)) : NI x y l b (i + 1) (f + 1) := by
  obtain ⟨h1, h2, h3⟩ := h
  refine ⟨by omega, ?_, fun j hj ho => ?_⟩
  · rw [take_snoc hi, List.count_append]
    have : x[i] = b := by rw [cB_get hi] at hm; exact UInt8.toNat_inj.1 (Int.ofNat_inj.1 hm)
    rw [this]
    simp
    exact h2
  · rcases Nat.lt_or_ge (j + l) i with c | c
    · exact h3 j c ho
    · rw [show j = i - l by omega] at ho; exact hno ho
theorem oc_of (hl : y.length = l + 1) (h1 : l ≤ i) (hi : i < x.length) (h : ∀ t, t < l + 1 → cB x (i - t) = cB y (l - t)) : oc x y (i - l) := by
  refine ⟨by omega, fun t ht => ?_⟩
  have := h (l - t) (by omega)
  rw [show i - (l - t) = i - l + t by omega, show l - (l - t) = t by omega] at this
  exact this
end

set_option maxRecDepth 40000 in
set_option maxHeartbeats 4000000 in
theorem p_ixr (s : ByteArray) (x : List UInt8) (hx : s = S x) (r : Int) (y : List UInt8) (l : Nat) (hy : Utf8.encode r = S y) (hyl : y.length = l + 1) (l1 : 1 ≤ l) (l3 : l ≤ 3) (r0 : 128 ≤ r) (rne : r ≠ 65533) (rv : Lib.validRune r = true) (hx64 : x.length ≤ 1000) (hf : fewB x) (hla : cB y l < 192) (w : World) :
    Calls Tryd.prog 62 #[.string s, .int .i32 r] w fun e w' => ∃ v : Int, e = .returned (.int .i64 v) ∧ (0 ≤ v ↔ ∃ j, oc x y j) ∧ ∃ n, w' = w.drewN n := by
  have hl : s.size = x.length := by rw [hx, S_size]
  obtain ⟨E, hE⟩ : ∃ E, Utf8.encode r = E := ⟨_, rfl⟩
  have hEy : E = S y := by rw [← hE]; exact hy
  have hEs : E.size = l + 1 := by rw [hEy, S_size]; exact hyl
  have hll : l < y.length := by omega
  obtain ⟨bb, hbb⟩ : ∃ b, y[l] = b := ⟨_, rfl⟩
  have hbY : cB y l = (bb.toNat : Int) := by rw [cB_get hll, hbb]
  have HX := Lib.hid hx
  have HE := Lib.hid hEy
  have HY := Lib.hid hyl
  have HBY := Lib.hid hbY
  have hb192 : bb.toNat < 192 := by rw [hbY] at hla; omega
  have HF : Hid (∀ i : Nat, i ≤ x.length → (x.take i).count bb ≤ (i + 16) / 8) := Lib.hid (fun i hi => hf bb i hb192 hi)
  have HRV := Lib.hid rv
  have HL := Lib.hid hl
  have d5 : (r == 65533) = false := by rw [beq_eq_false_iff_ne]; exact rne
  have hsz : s.size ≤ 1000 := by omega
  have e16 : cB y l = cB y l := rfl
  clear hx hEy hyl hbY hf rv hy hbb rne hl e16 hla hb192
  go_enter Tryd.func62, Tryd.ntmps62
  go_wp2_with (go_at_call 76; refine (sh_utf8_ValidRune _ _).mono ?_; rintro e w' ⟨rfl, hw⟩; rw [hw, HRV.out]; clear hw)
  go_step3
  go_wp2_with fail
  go_loopw [9, 10] (fun vi vf wr => ∃ i fl : Nat, vi = .int .i64 i ∧ vf = .int .i64 fl ∧ i ≤ 2000 ∧ fl ≤ 2000 ∧ Hid (NI x y l bb i fl) ∧ Hid (∃ n, wr = w.drewN n)) (fun vi _ _ => s.size + 1 - (intOf vi).toNat)
  case atStart => exact ⟨l, 0, by go_num, by go_num, by omega, by omega, Lib.hid ⟨Nat.le_refl _, Nat.zero_le _, fun j h => by omega⟩, Lib.hid ⟨0, rfl⟩⟩
  case round =>
    obtain ⟨i, fl, rfl, rfl, hi2, hf2, HN0, HW⟩ := hrel
    by_cases hlt : i < s.size
    · have hix : i < x.length := by rw [← HL.out]; exact hlt
      have hIX := str_at s x HX.out (i : Int) i rfl hix
      have hEX := str_at E y HE.out (l : Int) l rfl (by rw [HY.out]; omega)
      have hll1 : (l : Int) < (l : Int) + 1 := by omega
      by_cases hm : cB x i = cB y l
      · have dm : (cB x i != cB y l) = false := by rw [bne_eq_false_iff_eq]; exact hm
        go_wp2_with fail
        refine scope_fwd 0 rfl ?_
        go_wp2_with fail
        go_quiet (fail)
        go_wp2_with fail
        obtain ⟨ii, hii0⟩ : ∃ ii, ii = i := ⟨_, rfl⟩
        subst hii0
        have hii : ii < x.length := hix
        have HB : Hid (cB x ii = cB y l) := Lib.hid hm
        have HN := HN0
        obtain ⟨w2, hw2⟩ : ∃ w2, w2 = wr.drewN nq := ⟨_, rfl⟩
        have HW2 : Hid (∃ n, w2 = w.drewN n) := Lib.hid (by obtain ⟨n, hn⟩ := HW.out; exact ⟨n + nq, by rw [hw2, hn, World.drewN_drewN]⟩)
        rw [← hw2]
        clear hw2
        clear hm dm hIX hEX
        obtain ⟨q, hq⟩ : ∃ q, ii = q + l := ⟨ii - l, by have := HN.out.1; omega⟩
        have HQ := Lib.hid hq
        clear hq
        go_loopw [12] (fun vj wr2 => ∃ j : Nat, 1 ≤ j ∧ j ≤ l + 1 ∧ vj = .int .i64 j ∧ Hid (∀ t, t < j → cB x (ii - t) = cB y (l - t)) ∧ Hid (∃ n, wr2 = w.drewN n)) (fun vj _ => l + 1 - (intOf vj).toNat)
        case atStart => exact ⟨1, by omega, by omega, by go_num, Lib.hid (fun t ht => by rw [show t = 0 by omega]; exact HB.out), HW2⟩
        case round =>
          obtain ⟨j, j1, j2, rfl, HJ, HW3⟩ := hrel
          by_cases hj : j < l + 1
          · have hl2 : l < y.length := by rw [HY.out]; omega
            have hii2 : ii < x.length := hii
            have hq2 := HQ.out
            have hXJ := str_at s x HX.out ((ii : Int) - j) (ii - j) (by omega) (by omega)
            have hEJ := str_at E y HE.out ((l : Int) - j) (l - j) (by omega) (by omega)
            have b1 : (0 : Int) ≤ (ii : Int) - j := by omega
            have b2 : (0 : Int) ≤ (l : Int) - j := by omega
            have dj : (j : Int) < (l : Int) + 1 := by omega
            clear hq2
            by_cases heq : cB x (ii - j) = cB y (l - j)
            · have dh : (cB x (ii - j) != cB y (l - j)) = false := by rw [bne_eq_false_iff_eq]; exact heq
              have HJ2 : Hid (∀ t, t < j + 1 → cB x (ii - t) = cB y (l - t)) := Lib.hid (fun t ht => by
                rcases Nat.lt_or_ge t j with c | c
                · exact HJ.out t c
                · rw [show t = j by omega]; exact heq)
              clear heq
              go_wp2_with fail
              go_quiet (fail)
              go_wp2_with fail
              go_roundw
              case rel => exact ⟨j + 1, by omega, by omega, by go_num, HJ2, Lib.hid (by obtain ⟨n, hn⟩ := HW3.out; exact ⟨n + nq, by rw [hn, World.drewN_drewN]⟩)⟩
              case measure => simp [intOf]; omega
            · have dh : (cB x (ii - j) != cB y (l - j)) = true := by rw [bne_iff_ne]; exact heq
              have hno : ¬ oc x y (ii - l) := fun ho => heq (by
                have h3 := ho.2 (l - j) (by rw [HY.out]; omega)
                have h4 := HQ.out
                rw [show ii - l + (l - j) = ii - j by omega] at h3
                exact h3)
              have HNX := Lib.hid (HN.out.next hii (HB.out.trans HBY.out) hno)
              have hfw := Lib.hid (Nat.le_trans HNX.out.2.1 (HF.out (ii + 1) hii))
              clear heq hno
              go_wp2_with fail
              go_quiet (fail)
              have hcut : (decide (((ii : Int) + 1 + 16) / 8 < (fl : Int) + 1)) = false := by have := hfw.out; simp; omega
              have hcb : (ii : Int) + 1 < 4611686018427387904 := by omega
              go_wp2_with fail
              go_step3
              refine (show 0 = 0 ∧ _ from ⟨rfl, ?_⟩)
              show Code.wp _ _ _ _ _
              go_wp2_with (go_at_call 77; refine (sh_bytealg_Cutover _ (by omega) hcb _).mono ?_; rintro e w' ⟨rfl, hw⟩; rw [hw]; clear hw)
              go_leave
              go_roundw
              case rel => exact ⟨ii + 1, fl + 1, by go_num, by go_num, by omega, by have := hfw.out; omega, HNX, Lib.hid (by obtain ⟨n, hn⟩ := HW3.out; exact ⟨n + nq, by rw [hn, World.drewN_drewN]⟩)⟩
              case measure => simp [intOf]; omega
          · have hjl : j = l + 1 := by omega
            subst hjl
            have hoc : oc x y (ii - l) := oc_of HY.out (by have := HQ.out; omega) hii HJ.out
            have HOC := Lib.hid hoc
            have dj : ¬ ((l : Int) + 1 < (l : Int) + 1) := by omega
            clear hoc
            go_wp2_with fail
            go_leave
            go_ret
            exact ⟨_, rfl, ⟨fun _ => ⟨_, HOC.out⟩, fun _ => by have := HQ.out; omega⟩, HW3.out⟩
      · have dm : (cB x i != cB y l) = true := by rw [bne_iff_ne]; exact hm
        have hsl := str_from s i hlt
        have hwr : IntKind.i64.wrap ((i : Int) + 1) = (i : Int) + 1 := by rw [IntKind.wrap_i64]; omega
        obtain ⟨D, hD⟩ : ∃ D, s.extract (i + 1) s.size = D := ⟨_, rfl⟩
        have hDL : D.data.toList = x.drop (i + 1) := by rw [← hD, HX.out, S_extract, S_data, S_size]; exact List.take_of_length_le (by simp)
        rw [hD] at hsl
        have hIB := fun w => sh_strings_IndexByte D (bb.toNat : Int) w
        rw [hDL, show (bb.toNat : Int).toNat.toUInt8 = bb by simp] at hIB
        rw [← HBY.out] at hIB
        have HM := Lib.hid hm
        clear hm hD hDL
        by_cases hmem : bb ∈ x.drop (i + 1)
        · obtain ⟨o, ho1, ho2, ho3, ho4⟩ := ib_some hmem
          rw [ho1] at hIB
          have HIB := Lib.hid hIB
          rw [List.length_drop] at ho2
          have ho5 : i + (o + 1) < x.length := by omega
          have HB : Hid (cB x (i + (o + 1)) = cB y l) := Lib.hid (by rw [HBY.out, ← ho3, cB_drop]; congr 1; omega)
          have HN : Hid (NI x y l bb (i + (o + 1)) fl) := Lib.hid (HN0.out.skip HY.out HBY.out (by omega) (fun j j1 j2 => by
            rcases Nat.lt_or_ge i j with c | c
            · have := ho4 (j - (i + 1)) (by omega)
              rw [cB_drop, show i + 1 + (j - (i + 1)) = j by omega] at this
              exact this
            · rw [show j = i by omega, ← HBY.out]; exact HM.out))
          have osz : (o : Int) ≤ 1000 := by omega
          clear hIB ho1 ho2 ho3 ho4 hmem
          go_wp2_with fail
          refine scope_fwd 0 rfl ?_
          go_wp2_with fail
          go_quiet (fail)
          obtain ⟨w1, hw1⟩ : ∃ w1, w1 = wr.drewN nq := ⟨_, rfl⟩
          have HW1 : Hid (∃ n, w1 = w.drewN n) := Lib.hid (by obtain ⟨n, hn⟩ := HW.out; exact ⟨n + nq, by rw [hw1, hn, World.drewN_drewN]⟩)
          rw [← hw1]
          clear hw1
          go_wp2_with fail
          go_quiet ((go_at_call 75; exact Calls.quiet_of_same (HIB.out _)))
          go_wp2_with fail
          obtain ⟨ii, hii0⟩ : ∃ ii, ii = i + (o + 1) := ⟨_, rfl⟩
          have hcast : (i : Int) + ((o : Int) + 1) = (ii : Int) := by omega
          rw [hcast]
          rw [← hii0] at HB HN ho5
          have hii : ii < x.length := ho5
          have hio : i < ii := by omega
          obtain ⟨w2, hw2⟩ : ∃ w2, w2 = w1.drewN nq := ⟨_, rfl⟩
          have HW2 : Hid (∃ n, w2 = w.drewN n) := Lib.hid (by obtain ⟨n, hn⟩ := HW1.out; exact ⟨n + nq, by rw [hw2, hn, World.drewN_drewN]⟩)
          rw [← hw2]
          clear hw2 hcast hii0 hIX hEX dm hsl hwr
          obtain ⟨q, hq⟩ : ∃ q, ii = q + l := ⟨ii - l, by have := HN.out.1; omega⟩
          have HQ := Lib.hid hq
          clear hq
          go_loopw [12] (fun vj wr2 => ∃ j : Nat, 1 ≤ j ∧ j ≤ l + 1 ∧ vj = .int .i64 j ∧ Hid (∀ t, t < j → cB x (ii - t) = cB y (l - t)) ∧ Hid (∃ n, wr2 = w.drewN n)) (fun vj _ => l + 1 - (intOf vj).toNat)
          case atStart => exact ⟨1, by omega, by omega, by go_num, Lib.hid (fun t ht => by rw [show t = 0 by omega]; exact HB.out), HW2⟩
          case round =>
            obtain ⟨j, j1, j2, rfl, HJ, HW3⟩ := hrel
            by_cases hj : j < l + 1
            · have hl2 : l < y.length := by rw [HY.out]; omega
              have hii2 : ii < x.length := hii
              have hq2 := HQ.out
              have hXJ := str_at s x HX.out ((ii : Int) - j) (ii - j) (by omega) (by omega)
              have hEJ := str_at E y HE.out ((l : Int) - j) (l - j) (by omega) (by omega)
              have b1 : (0 : Int) ≤ (ii : Int) - j := by omega
              have b2 : (0 : Int) ≤ (l : Int) - j := by omega
              have dj : (j : Int) < (l : Int) + 1 := by omega
              clear hq2
              by_cases heq : cB x (ii - j) = cB y (l - j)
              · have dh : (cB x (ii - j) != cB y (l - j)) = false := by rw [bne_eq_false_iff_eq]; exact heq
                have HJ2 : Hid (∀ t, t < j + 1 → cB x (ii - t) = cB y (l - t)) := Lib.hid (fun t ht => by
                  rcases Nat.lt_or_ge t j with c | c
                  · exact HJ.out t c
                  · rw [show t = j by omega]; exact heq)
                clear heq
                go_wp2_with fail
                go_quiet (fail)
                go_wp2_with fail
                go_roundw
                case rel => exact ⟨j + 1, by omega, by omega, by go_num, HJ2, Lib.hid (by obtain ⟨n, hn⟩ := HW3.out; exact ⟨n + nq, by rw [hn, World.drewN_drewN]⟩)⟩
                case measure => simp [intOf]; omega
              · have dh : (cB x (ii - j) != cB y (l - j)) = true := by rw [bne_iff_ne]; exact heq
                have hno : ¬ oc x y (ii - l) := fun ho => heq (by
                  have h3 := ho.2 (l - j) (by rw [HY.out]; omega)
                  have h4 := HQ.out
                  rw [show ii - l + (l - j) = ii - j by omega] at h3
                  exact h3)
                have HNX := Lib.hid (HN.out.next hii (HB.out.trans HBY.out) hno)
                have hfw := Lib.hid (Nat.le_trans HNX.out.2.1 (HF.out (ii + 1) hii))
                clear heq hno
                go_wp2_with fail
                go_quiet (fail)
                have hcut : (decide (((ii : Int) + 1 + 16) / 8 < (fl : Int) + 1)) = false := by have := hfw.out; simp; omega
                have hcb : (ii : Int) + 1 < 4611686018427387904 := by omega
                go_wp2_with fail
                go_step3
                refine (show 0 = 0 ∧ _ from ⟨rfl, ?_⟩)
                show Code.wp _ _ _ _ _
                go_wp2_with (go_at_call 77; refine (sh_bytealg_Cutover _ (by omega) hcb _).mono ?_; rintro e w' ⟨rfl, hw⟩; rw [hw]; clear hw)
                go_leave
                go_roundw
                case rel => exact ⟨ii + 1, fl + 1, by go_num, by go_num, by omega, by have := hfw.out; omega, HNX, Lib.hid (by obtain ⟨n, hn⟩ := HW3.out; exact ⟨n + nq, by rw [hn, World.drewN_drewN]⟩)⟩
                case measure => simp [intOf]; omega
            · have hjl : j = l + 1 := by omega
              subst hjl
              have hoc : oc x y (ii - l) := oc_of HY.out (by have := HQ.out; omega) hii HJ.out
              have HOC := Lib.hid hoc
              have dj : ¬ ((l : Int) + 1 < (l : Int) + 1) := by omega
              clear hoc
              go_wp2_with fail
              go_leave
              go_ret
              exact ⟨_, rfl, ⟨fun _ => ⟨_, HOC.out⟩, fun _ => by have := HQ.out; omega⟩, HW3.out⟩
        · have hno := ib_none hmem
          rw [hno] at hIB
          have HIB := Lib.hid hIB
          have HNO : Hid (¬ ∃ j, oc x y j) := Lib.hid (HN0.out.none HY.out HBY.out (fun j j1 j2 e => by
            rcases Nat.lt_or_ge i j with c | c
            · exact hmem (ib_ge.2 ⟨j - (i + 1), by rw [List.length_drop]; omega, by rw [cB_drop, show i + 1 + (j - (i + 1)) = j by omega]; exact e⟩)
            · rw [show j = i by omega] at e; exact HM.out (e.trans HBY.out.symm)))
          clear hIB hno hmem
          go_wp2_with fail
          refine scope_fwd 0 rfl ?_
          go_wp2_with fail
          go_quiet (fail)
          obtain ⟨w1, hw1⟩ : ∃ w1, w1 = wr.drewN nq := ⟨_, rfl⟩
          have HW1 : Hid (∃ n, w1 = w.drewN n) := Lib.hid (by obtain ⟨n, hn⟩ := HW.out; exact ⟨n + nq, by rw [hw1, hn, World.drewN_drewN]⟩)
          rw [← hw1]
          clear hw1
          go_wp2_with fail
          go_quiet ((go_at_call 75; exact Calls.quiet_of_same (HIB.out _)))
          go_wp2_with fail
          go_leave
          go_ret
          exact ⟨_, rfl, ⟨fun h => by omega, fun h => absurd h HNO.out⟩, by obtain ⟨n, hn⟩ := HW1.out; rw [hn]; exact ⟨_, World.drewN_drewN ..⟩⟩
    · have HNO : Hid (¬ ∃ j, oc x y j) := Lib.hid (HN0.out.none HY.out HBY.out (fun j j1 j2 _ => by have := HL.out; omega))
      go_wp2_with fail
      rw [Exit.noGoto_ret]
      go_ret
      exact ⟨_, rfl, ⟨fun h => by omega, fun h => absurd h HNO.out⟩, HW.out⟩

end Go.Proofs.YtfkcnbcifidlgaaDoor
