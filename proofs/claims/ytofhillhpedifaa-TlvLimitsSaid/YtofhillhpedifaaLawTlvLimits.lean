/-
  What is proved here: the given statement TlvLimitsSaid, for every two numbers; no condition.
-/
import Derived.Test.YtofhillhpedifaaOpen
import Derived.Test.YtofhillhpedifaaLim
import Derived.Test.YtofhillhpedifaaMod
namespace Go.Proofs.Ytofhillhpedifaa.tlvLimits
open Go.ChangeShapes Go.WideShapes Go.ChangeAt Go.RowKit
open Go.ChangeMaps (open_string shut_string)
set_option linter.unusedVariables false

/-- the variable x of the statement behind j objects -/
def Nst (w wr : World) (j : Nat) : Prop := ∃ (Ak : Option Addr) (ck : Nat), wr.heap[w.heap.size]? = some (.cells #[.int .i64 48, .slice none 0 0, .slice Ak (nestF j).len ck] 32 (0, 0)) ∧ SeesF wr (fun b => w.heap.size < b ∧ b < wr.heap.size) Ak (nestF j) ∧ Below w.heap.size w wr

theorem Nst.start (w : World) : Nst w (w.alloc (.cells #[.int .i64 48, .slice none 0 0, .slice none 0 0] 32)) 0 :=
  ⟨none, 0, heap_alloc_new w _, SeesF.nil_, (Below.refl _ _).alloc (Nat.le_refl _) _⟩

theorem nest_in {wr W : World} {j : Nat} {Ak : Option Addr} {ck X : Nat} (hf : ∀ q : Addr, X < q.block → q.block < wr.heap.size → W.cell? q = wr.cell? q) (hsz : wr.heap.size < W.heap.size)
    (hb : W.heap[wr.heap.size]? = some (.cells #[.int .i64 48, .slice none 0 0, .slice Ak (nestF j).len ck] 32 (0, 0))) (hk : SeesF wr (fun b => X < b ∧ b < wr.heap.size) Ak (nestF j)) (hX : X < wr.heap.size) :
    SeesF W (fun b => X < b ∧ b < W.heap.size) (some ⟨wr.heap.size, 0, none⟩) (nestF (j + 1)) := by
  have hk2 := (hk.keep fun q hq => hf q hq.1 hq.2).imp fun b hb => (⟨hb.1, by omega⟩ : X < b ∧ b < W.heap.size)
  obtain ⟨ks, k1, k2⟩ := hk2
  refine ⟨[.int .i64 48, .slice none 0 0, .slice Ak (nestF j).len ck], .inr ⟨wr.heap.size, 0, rfl, ⟨hX, hsz⟩, fun i hi => ?_⟩, none, 0, Ak, ck, ks, [], rfl, fun _ => rfl, .inl rfl, k1, k2, rfl⟩
  rw [Nat.zero_add, cell_of_row W _ i _ _ (0, 0) hb]
  simp
theorem Nst.step {w wr : World} {j : Nat} {Ak : Option Addr} {ck : Nat} (x0 : wr.heap[w.heap.size]? = some (.cells #[.int .i64 48, .slice none 0 0, .slice Ak (nestF j).len ck] 32 (0, 0))) (x1 : SeesF wr (fun b => w.heap.size < b ∧ b < wr.heap.size) Ak (nestF j)) (x2 : Below w.heap.size w wr) :
    Nst w ((((wr.setCell ⟨w.heap.size, 0, none⟩ (.int .i64 48)).setCell ⟨w.heap.size, 1, none⟩ (.slice none 0 0)).setCell ⟨w.heap.size, 2, none⟩ (.slice (some ⟨wr.heap.size, 0, none⟩) 1 1)).alloc (.cells #[.int .i64 48, .slice none 0 0, .slice Ak (nestF j).len ck] 32)) (j + 1) := by
  have hX : w.heap.size < wr.heap.size := lt_of_block x0
  have hF := (Fin.set w wr (.int .i64 48) (.slice none 0 0) (.slice (some ⟨wr.heap.size, 0, none⟩) 1 1)).alloc (.cells #[.int .i64 48, .slice none 0 0, .slice Ak (nestF j).len ck] 32)
  refine ⟨some ⟨wr.heap.size, 0, none⟩, 1, block_alloc (block_set (block_set (block_set x0 _) _) _) _, nest_in (ck := ck) (fun q h1 h2 => hF.cell h2 (by omega)) (by simp) ?_ x1 hX, ?_⟩
  · have := heap_alloc_new (((wr.setCell ⟨w.heap.size, 0, none⟩ (.int .i64 48)).setCell ⟨w.heap.size, 1, none⟩ (.slice none 0 0)).setCell ⟨w.heap.size, 2, none⟩ (.slice (some ⟨wr.heap.size, 0, none⟩) 1 1)) (.cells #[.int .i64 48, .slice none 0 0, .slice Ak (nestF j).len ck] 32)
    simpa using this
  · exact (((x2.setCell (p := ⟨w.heap.size, 0, none⟩) (Nat.le_refl _) _).setCell (p := ⟨w.heap.size, 1, none⟩) (Nat.le_refl _) _).setCell (p := ⟨w.heap.size, 2, none⟩) (Nat.le_refl _) _).alloc (by simp; omega) _
theorem own_cap {w : World} {base : Nat} {e : TypeId} {size : Nat} {A : Option Addr} {n c m : Nat} {xs : List Value} (h : w.ownsRow base e size (.slice A n c) m xs) : m ≤ c ∧ m = n := by
  rcases h.2 with ⟨h1, h2⟩ | ⟨g, cap, cur, h1, _, _, h3, _⟩
  · injection h1 with h1 h4 h5; omega
  · injection h1 with h1 h4 h5; omega
theorem pair_u8 (a b : UInt8) (x y : Int) (hx : x = a.toNat) (hy : y = b.toNat) (l : List UInt8) : Us l ++ #[Value.int .u8 x, Value.int .u8 y].toList = Us (l ++ [a, b]) := by
  rw [Us_append, hx, hy]; rfl
theorem two_cells (x y : Int) : ∀ u ∈ #[Value.int .u8 x, Value.int .u8 y].toList, u.oneCell' = true := by
  intro u hu
  simp only [List.mem_cons, List.not_mem_nil, or_false] at hu
  rcases hu with rfl | rfl <;> rfl

theorem own_apart2 {w : World} {base base' : Nat} {e e' : TypeId} {s s' : Nat} {v v' : Value} {n n' : Nat} {xs xs' : List Value} (h : w.ownsRow base e s v n xs) (h' : w.ownsRow base' e' s' v' n' xs') (hne : e ≠ e') : v.ownBlock = none ∨ v.ownBlock ≠ v'.ownBlock := by
  rcases h.2 with ⟨rfl, _⟩ | ⟨g, cap, cur, rfl, _, hh, _⟩
  · left; rfl
  · right
    rcases h'.2 with ⟨rfl, _⟩ | ⟨g', cap', cur', rfl, _, hh', _⟩
    · simp [Value.ownBlock]
    · intro he
      have : g = g' := by simpa [Value.ownBlock] using he
      subst this
      rw [hh] at hh'
      injection hh' with hh'
      injection hh' with _ ht
      exact hne ht
theorem par_code {w : World} {r : Except Int (F × Nat)} {e : Ending} {w' : World} (h : ParIs w r e w') : ∃ A c, e = .returned (.tuple #[.slice A (parN r) c, .int .i64 (parE r)]) ∧ Below w.heap.size w w' := by
  obtain ⟨hb, h⟩ := h
  cases r with
  | error x => exact ⟨none, 0, h.1, hb⟩
  | ok q =>
    obtain ⟨f, c'⟩ := q
    obtain ⟨A, c, he, _⟩ := h
    exact ⟨A, c, he, hb⟩
/-- the cells of n equal objects -/
def fourC : Nat → List Value
  | 0 => []
  | n + 1 => fourC n ++ #[.int .i64 4, .slice none 0 0, .slice none 0 0].toList
theorem four_holds (w : World) (p : Nat → Prop) : ∀ n, HoldsP w p (flatF n) (fourC n)
  | 0 => rfl
  | n + 1 => by
    rw [flatF_snoc]
    exact HoldsP.app (four_holds w p n) ⟨none, 0, none, 0, [], [], rfl, fun _ => rfl, .inl rfl, .inl rfl, rfl, rfl⟩
theorem four_cells : ∀ u ∈ #[Value.int .i64 4, .slice none 0 0, .slice none 0 0].toList, u.oneCell' = true := by
  intro u hu
  simp only [List.mem_cons, List.not_mem_nil, or_false] at hu
  rcases hu with rfl | rfl | rfl <;> rfl
theorem four_sees {w : World} {base n : Nat} {A : Option Addr} {c : Nat} (h : w.ownsRow base 32 3 (.slice A n c) n (fourC n)) : SeesF w (· < w.heap.size) A (flatF n) := by
  refine ⟨fourC n, ?_, four_holds _ _ n⟩
  rcases h.2 with ⟨h1, h2⟩ | ⟨g, cap, cur, h1, hb, hh, hn, hm, hs, ht⟩
  · subst h2; exact .inl rfl
  · injection h1 with h1 h4 h5
    have hl := h.1
    refine .inr ⟨g, 0, h1, lt_of_block hh, fun j hj => ?_⟩
    rw [Nat.zero_add, cell_of_row w g j cur _ (0, 0) hh, ← ht, List.getElem?_take, if_pos (by omega), Array.getElem?_toList]

/-- what the last loop keeps -/
def Two (w3 wr : World) (v a : Value) (q : Nat) : Prop := wr.ownsRow w3.heap.size 32 3 v q (fourC q) ∧ wr.ownsRow w3.heap.size 5 1 a (2 * q) (Us (flatB q)) ∧ Below w3.heap.size w3 wr

set_option maxRecDepth 20000 in
set_option maxHeartbeats 4000000 in
theorem walk (n0 n1 : Int) (w : World) (w0 : (Lit.int .i64 n0).wf = true) (w1 : (Lit.int .i64 n1).wf = true) :
    Calls Try.prog 10 #[.int .i64 n0, .int .i64 n1] w fun e w' => e = .returned (.bool true) ∧ Below w.heap.size w w' := by
  have b0 : -9223372036854775808 ≤ n0 ∧ n0 ≤ 9223372036854775807 := by simpa [Lit.wf, IntKind.min, IntKind.max, IntKind.signed, IntKind.bits] using w0
  have b1 : -9223372036854775808 ≤ n1 ∧ n1 ≤ 9223372036854775807 := by simpa [Lit.wf, IntKind.min, IntKind.max, IntKind.signed, IntKind.bits] using w1
  have hm0 := made_mod n0 12 b0.1 b0.2 (by decide) (by decide) w
  have hm1 := made_mod n1 12 b1.1 b1.2 (by decide) (by decide) w
  obtain ⟨D, hD, hD2⟩ : ∃ D : Nat, D < 12 ∧ n0 % 12 = (D : Int) := ⟨(n0 % 12).toNat, by omega, by omega⟩
  obtain ⟨C, hC, hC2⟩ : ∃ C : Nat, C < 12 ∧ n1 % 12 = (C : Int) := ⟨(n1 % 12).toNat, by omega, by omega⟩
  rw [hD2] at hm0
  rw [hC2] at hm1
  have H0 := Lib.hid hm0
  have H1 := Lib.hid hm1
  clear hm0 hm1 hD2 hC2 w0 w1 b0 b1
  go_enter Try.func10, Try.ntmps10
  go_wp2_with fail
  refine H0.out.mono ?_
  rintro e w ⟨rfl, rfl⟩
  go_wp2_with fail
  refine H1.out.mono ?_
  rintro e w ⟨rfl, rfl⟩
  clear H0 H1
  go_wp2_with fail
  go_loopw [8] (fun i wr => ∃ j : Nat, j ≤ D ∧ i = .int .i64 ((j + 1 : Nat) : Int) ∧ Hid (Nst w wr j)) (fun i _ => D + 1 - (intOf i).toNat)
  case atStart => exact ⟨0, Nat.zero_le _, rfl, Lib.hid (Nst.start w)⟩
  case round =>
    obtain ⟨j, hj, rfl, HN⟩ := hrel
    obtain ⟨Ak, ck, x0, x1, x2⟩ := HN.out
    have HX := Lib.hid (show _ ∧ _ ∧ _ from ⟨x0, x1, x2⟩)
    have c0 := cell_of_row wr w.heap.size 0 _ _ _ x0
    have c1 := cell_of_row wr w.heap.size 1 _ _ _ x0
    have c2 := cell_of_row wr w.heap.size 2 _ _ _ x0
    have r0 := frozen_of_row wr w.heap.size 0 _ _ x0
    have r1 := frozen_of_row wr w.heap.size 1 _ _ x0
    have r2 := frozen_of_row wr w.heap.size 2 _ _ x0
    simp only [List.getElem?_toArray, List.getElem?_cons_succ, List.getElem?_cons_zero] at c0 c1 c2
    have hX : w.heap.size < wr.heap.size := lt_of_block x0
    clear x0 x1 x2
    by_cases hlt : j < D
    · have d1 : decide (((j + 1 : Nat) : Int) < (1 : Int) + (D : Int)) = true := by simp; omega
      go_wp2_with fail
      go_roundw
      case rel => exact ⟨j + 1, by omega, by go_num, Lib.hid (Nst.step HX.out.1 HX.out.2.1 HX.out.2.2)⟩
      case measure => simp [intOf]; omega
    · obtain rfl : j = D := by omega
      go_wp2_with fail
      obtain ⟨W, hW⟩ : ∃ W, W = wr.alloc (.cells #[.int .i64 48, .slice none 0 0, .slice Ak (nestF j).len ck] 32) := ⟨_, rfl⟩
      have hs : SeesF W (· < W.heap.size) (some ⟨wr.heap.size, 0, none⟩) (nestF (j + 1)) := by
        rw [hW]
        exact (nest_in (fun q _ h2 => World.cell?_alloc_lt wr _ q h2) (by simp) (heap_alloc_new wr _) HX.out.2.1 hX).imp fun b hb => hb.2
      have hbW : Below w.heap.size w W := by rw [hW]; exact HX.out.2.2.alloc HX.out.2.2.size _
      have hE := tlv_encode (nestF (j + 1)) (some ⟨wr.heap.size, 0, none⟩) 1 W (by rw [nestF_size]; omega) (nestF_ok _) hs
      rw [← hW]
      clear hW hs HN HX c0 c1 c2 r0 r1 r2 hX
      obtain ⟨EE, hEE⟩ : ∃ EE, EE = encE (nestF (j + 1)) := ⟨_, rfl⟩
      obtain ⟨BB, hBB⟩ : ∃ BB, BB = encB (nestF (j + 1)) := ⟨_, rfl⟩
      rw [← hEE, ← hBB] at hE
      have HEB := Lib.hid (show _ ∧ _ from ⟨hEE, hBB⟩)
      clear hEE hBB
      refine Calls.mono hE ?_
      rintro e w1 ⟨A1, cc1, rfl, s1, hb1⟩
      have HB := Lib.hid (show _ ∧ _ from ⟨below_on hbW hb1, s1⟩)
      clear hE hbW hb1 s1
      obtain ⟨i0, hi, hz0, hz1, hz2⟩ := info_parts info_u8b
      go_wp2_with fail
      go_loopw [11, 12] (fun v i wr => ∃ q : Nat, q ≤ j + 1 ∧ i = .int .i64 ((j : Int) + 1 - (q : Int)) ∧ Hid (wr.ownsRow w1.heap.size 5 1 v (2 * q) (Us (nestB (j + 1) q)) ∧ Below w1.heap.size w1 wr)) (fun _ i _ => (intOf i).toNat)
      case atStart => exact ⟨0, Nat.zero_le _, by go_num, Lib.hid ⟨⟨rfl, .inl ⟨rfl, rfl⟩⟩, Below.refl _ _⟩⟩
      case round =>
        obtain ⟨q, hq, rfl, HQ⟩ := hrel
        by_cases hlt2 : q < j + 1
        · have d1 : decide ((0 : Int) < (j : Int) + 1 - (q : Int)) = true := by simp; omega
          have hown := HQ.out.1
          go_wp2_with (at_builtin; refine wpList_append_own _ rfl (.tmp 48) (.tmp 53) 27 rfl w1.heap.size 5 i0 (.int .u8 0) 1 1 Try.underlying27 hi hz0 hz1 hz2 rfl (by decide) u11 (2 * q) _ rfl (hown.alloc _) ⟨_, 0, none⟩ 2 2 _ rfl rfl (World.news_of_block (heap_alloc_new _ _)) (two_cells _ _) (by unfold maxLen; omega) (by omega) (by have := HQ.out.2.size; simp; omega) ?_; intro v2 w2 ho hg _)
          have hoo : w2.ownsRow w1.heap.size 5 1 v2 (2 * (q + 1)) (Us (nestB (j + 1) (q + 1))) := by
            rw [nestB_snoc, ← pair_u8 48 (UInt8.ofNat (2 * (j + 1 - 1 - q))) 48 (2 * ((j : Int) + 1 - (q : Int) - 1)) rfl (by rw [UInt8.toNat_ofNat']; omega)]
            exact ho
          have hbb : Below w1.heap.size w1 w2 := (HQ.out.2.alloc HQ.out.2.size _).grown hg (by have := HQ.out.2.size; simp; omega) (fun k hk => (hown.lt k hk).1)
          have HF := Lib.hid (show _ ∧ _ from ⟨hoo, hbb⟩)
          clear hoo hbb ho hg hown
          go_roundw
          case rel => exact ⟨q + 1, by omega, by go_num, HF⟩
          case measure => simp [intOf]; omega
        · obtain rfl : q = j + 1 := by omega
          have d1 : decide ((0 : Int) < (j : Int) + 1 - ((j + 1 : Nat) : Int)) = false := by simp
          obtain ⟨Ac, cc, hv⟩ := own_form HQ.out.1
          subst hv
          have hcap := own_cap HQ.out.1
          have hs2 : Sees wr wr.heap.size Ac (Us (nestB (j + 1) (j + 1))) := Sees.of_own HQ.out.1
          have hP := tlv_parse true (nestB (j + 1) (j + 1)) Ac cc wr (by rw [nestB_length]; omega) (by rw [nestB_length]; exact hcap.1) hs2
          rw [nestB_length] at hP
          have HP := Lib.hid (hP.mono fun e w' h => par_code h)
          have HS2 := Lib.hid hs2
          have HW := Lib.hid (show Below w.heap.size w wr ∧ Sees wr wr.heap.size A1 (Us BB) from ⟨below_on HB.out.1 HQ.out.2, HB.out.2.on HQ.out.2⟩)
          clear hP hs2 hcap
          go_wp2_with fail
          refine HP.out.mono ?_
          rintro e w3 ⟨A3, c3, rfl, hb3⟩
          obtain ⟨PE, hPE⟩ : ∃ PE, PE = parE (parse true (nestB (j + 1) (j + 1))) := ⟨_, rfl⟩
          obtain ⟨PN, hPN⟩ : ∃ PN, PN = parN (parse true (nestB (j + 1) (j + 1))) := ⟨_, rfl⟩
          rw [← hPE, ← hPN]
          have hlm := lim_nest ⟨j, hD⟩
          simp only at hlm
          obtain ⟨l1, l2, l3⟩ := hlm
          obtain ⟨hEE, hBB⟩ := HEB.out
          rw [← hEE] at l1
          rw [← hBB] at l2
          rw [← hPE] at l3
          have HB3 := Lib.hid (below_on HW.out.1 hb3)
          have HS3 := Lib.hid (show Sees w3 w3.heap.size A1 (Us BB) ∧ Sees w3 w3.heap.size Ac (Us (nestB (j + 1) (j + 1))) from ⟨HW.out.2.on hb3, HS2.out.on hb3⟩)
          obtain ⟨i1, hj1, hy0, hy1, hy2⟩ := info_parts info_node
          clear hEE hBB hPE hPN hb3 HEB HW HS2 HP HQ HB
          by_cases hD8 : j + 1 ≤ 8
          · rw [if_pos hD8] at l1 l3
            have l2b := l2 hD8
            clear l2
            subst l1 l3
            have hcv1 := run_conv w3 _ A1 BB HS3.out.1 BB.length cc1 rfl
            have hcv2 := run_conv w3 _ Ac _ HS3.out.2 (2 * (j + 1)) cc (by rw [nestB_length])
            rw [← l2b] at hcv2
            obtain ⟨sx, hsx⟩ : ∃ sx, sx = S BB := ⟨_, rfl⟩
            rw [← hsx] at hcv1 hcv2
            have e2 : (sx.toList != sx.toList) = false := by simp
            clear hsx
            have d8 : decide ((1 : Int) + (j : Int) ≤ 8) = true := by simp; omega
            clear l2b HS3
            go_wp2_with fail
            go_loopw [15, 16, 17] (fun v a i wr => ∃ q : Nat, q ≤ 250 + C ∧ i = .int .i64 (q : Int) ∧ Hid (Two w3 wr v a q)) (fun _ _ i _ => 250 + C - (intOf i).toNat)
            case atStart => exact ⟨0, Nat.zero_le _, rfl, Lib.hid ⟨⟨rfl, .inl ⟨rfl, rfl⟩⟩, ⟨rfl, .inl ⟨rfl, rfl⟩⟩, Below.refl _ _⟩⟩
            case round =>
              obtain ⟨q, hq, rfl, HQ⟩ := hrel
              by_cases hlt3 : q < 250 + C
              · have d3 : decide ((q : Int) < (250 : Int) + (C : Int)) = true := by simp; omega
                have hown1 := HQ.out.1
                have hown2 := HQ.out.2.1
                go_wp2_with (first | (at_builtin; refine wpList_append_own _ rfl (.tmp 88) (.tmp 90) 24 rfl w3.heap.size 32 i1 _ 3 56 Try.underlying24 hj1 hy0 hy1 hy2 rfl (by decide) u15 q _ rfl (hown1.alloc _) ⟨_, 0, none⟩ 1 1 _ rfl rfl (World.news_of_block (heap_alloc_new _ _)) four_cells (by unfold maxLen; omega) (by omega) (by have := HQ.out.2.2.size; simp; omega) ?_; intro v2 w4 ho hg _; have ho2 := (hown2.alloc (.cells #[.int .i64 4, .slice none 0 0, .slice none 0 0] 32)).kept hg (own_apart2 hown2 hown1 (by decide)); have hb4 : Below w3.heap.size w3 w4 := (HQ.out.2.2.alloc HQ.out.2.2.size _).grown hg (by have := HQ.out.2.2.size; simp; omega) (fun k hk => (hown1.lt k hk).1); have HB4 := Lib.hid hb4; clear hown1 hown2 hg hb4) | (at_builtin; refine wpList_append_own _ rfl (.tmp 92) (.tmp 93) 27 rfl w3.heap.size 5 i0 (.int .u8 0) 1 1 Try.underlying27 hi hz0 hz1 hz2 rfl (by decide) u16 (2 * q) _ rfl (ho2.alloc _) ⟨_, 0, none⟩ 2 2 _ rfl rfl (World.news_of_block (heap_alloc_new _ _)) (two_cells _ _) (by unfold maxLen; omega) (by omega) (by have := HB4.out.size; simp; omega) ?_; intro a2 w5 ho5 hg5 _))
                have hrow : w5.ownsRow w3.heap.size 32 3 v2 (q + 1) (fourC (q + 1)) := (ho.alloc (.cells #[.int .u8 4, .int .u8 0] 5)).kept hg5 (own_apart2 ho ho2 (by decide))
                have hrow2 : w5.ownsRow w3.heap.size 5 1 a2 (2 * (q + 1)) (Us (flatB (q + 1))) := by
                  rw [flatB_snoc, ← pair_u8 4 0 4 0 rfl rfl]
                  exact ho5
                have hb5 : Below w3.heap.size w3 w5 := (HB4.out.alloc HB4.out.size _).grown hg5 (by have := HB4.out.size; simp; omega) (fun k hk => (ho2.lt k hk).1)
                have HF := Lib.hid (show Two w3 w5 v2 a2 (q + 1) from ⟨hrow, hrow2, hb5⟩)
                clear hrow hrow2 hb5 ho ho2 ho5 hg5 HB4
                go_roundw
                case rel => exact ⟨q + 1, by omega, by go_num, HF⟩
                case measure => simp [intOf]; omega
              · obtain rfl : q = 250 + C := by omega
                have hC2 := lim_flat ⟨C, hC⟩
                simp only at hC2
                obtain ⟨m1, m2, m3⟩ := hC2
                obtain ⟨Al, cl, hvl⟩ : ∃ Al cl, u15 = .slice Al (250 + C) cl := by
                  rcases HQ.out.1.2 with ⟨h1, h2⟩ | ⟨g, cap, cur, h1, _⟩
                  · omega
                  · exact ⟨_, cap, h1⟩
                obtain ⟨Aa, ca, hva⟩ := own_form HQ.out.2.1
                subst hvl hva
                have hcapa := own_cap HQ.out.2.1
                by_cases hC6 : 250 + C ≤ 256
                · rw [if_pos hC6] at m1 m2
                  have hEn := tlv_encode (flatF (250 + C)) Al cl wr (by rw [flatF_size]; omega) (flatF_ok _) (four_sees HQ.out.1)
                  rw [flatF_len, m1] at hEn
                  obtain ⟨B2, hB2⟩ : ∃ B2, B2 = encB (flatF (250 + C)) := ⟨_, rfl⟩
                  rw [← hB2] at hEn
                  have HS5 := Lib.hid (show Sees wr wr.heap.size Aa (Us (flatB (250 + C))) from Sees.of_own HQ.out.2.1)
                  have HB5 := Lib.hid (below_on HB3.out HQ.out.2.2)
                  clear hB2 HQ HB3
                  have HEN := Lib.hid hEn
                  clear hEn m1
                  go_wp2_with fail
                  refine HEN.out.mono ?_
                  rintro e w6 ⟨A6, c6, rfl, _, hb6⟩
                  have hP2 := tlv_parse true (flatB (250 + C)) Aa ca w6 (by rw [flatB_length]; omega) (by rw [flatB_length]; exact hcapa.1) (HS5.out.on hb6)
                  rw [flatB_length] at hP2
                  have HP2 := Lib.hid (hP2.mono fun e w' h => par_code h)
                  have HB6 := Lib.hid (below_on HB5.out hb6)
                  clear hP2 hcapa HS5 HB5 hb6 HEN
                  go_wp2_with fail
                  refine HP2.out.mono ?_
                  rintro e w7 ⟨A7, c7, rfl, hb7⟩
                  rw [m2]
                  have HB7 := Lib.hid (below_on HB6.out hb7)
                  have HM3 := Lib.hid m3
                  clear m2 m3 HB6 hb7 HP2
                  go_wp2_with fail
                  refine (awake _).mono ?_
                  rintro e w8 ⟨rfl, hb8⟩
                  have HB8 := Lib.hid (below_on HB7.out hb8)
                  clear HB7 hb8
                  rw [HM3.out hC6]
                  have d9 : decide ((250 : Int) + (C : Int) ≤ 256) = true := by simp; omega
                  clear HM3
                  go_wp2_with fail
                  go_ret
                  exact ⟨rfl, HB8.out⟩
                · rw [if_neg hC6] at m1 m2
                  have hEn := tlv_encode (flatF (250 + C)) Al cl wr (by rw [flatF_size]; omega) (flatF_ok _) (four_sees HQ.out.1)
                  rw [flatF_len, m1] at hEn
                  obtain ⟨B2, hB2⟩ : ∃ B2, B2 = encB (flatF (250 + C)) := ⟨_, rfl⟩
                  rw [← hB2] at hEn
                  have HS5 := Lib.hid (show Sees wr wr.heap.size Aa (Us (flatB (250 + C))) from Sees.of_own HQ.out.2.1)
                  have HB5 := Lib.hid (below_on HB3.out HQ.out.2.2)
                  clear hB2 HQ HB3
                  have HEN := Lib.hid hEn
                  clear hEn m1
                  go_wp2_with fail
                  refine HEN.out.mono ?_
                  rintro e w6 ⟨A6, c6, rfl, _, hb6⟩
                  have hP2 := tlv_parse true (flatB (250 + C)) Aa ca w6 (by rw [flatB_length]; omega) (by rw [flatB_length]; exact hcapa.1) (HS5.out.on hb6)
                  rw [flatB_length] at hP2
                  have HP2 := Lib.hid (hP2.mono fun e w' h => par_code h)
                  have HB6 := Lib.hid (below_on HB5.out hb6)
                  clear hP2 hcapa HS5 HB5 hb6 HEN
                  go_wp2_with fail
                  refine HP2.out.mono ?_
                  rintro e w7 ⟨A7, c7, rfl, hb7⟩
                  rw [m2]
                  have HB7 := Lib.hid (below_on HB6.out hb7)
                  have HM3 := Lib.hid m3
                  clear m2 m3 HB6 hb7 HP2
                  go_wp2_with fail
                  refine (awake _).mono ?_
                  rintro e w8 ⟨rfl, hb8⟩
                  have HB8 := Lib.hid (below_on HB7.out hb8)
                  clear HB7 hb8
                  have d9 : decide ((250 : Int) + (C : Int) ≤ 256) = false := by simp; omega
                  clear HM3
                  go_wp2_with fail
                  go_ret
                  exact ⟨rfl, HB8.out⟩
          · rw [if_neg hD8] at l1 l3
            subst l1 l3
            have d8 : decide ((1 : Int) + (j : Int) ≤ 8) = false := by simp; omega
            clear l2 HS3
            go_wp2_with fail
            go_loopw [15, 16, 17] (fun v a i wr => ∃ q : Nat, q ≤ 250 + C ∧ i = .int .i64 (q : Int) ∧ Hid (Two w3 wr v a q)) (fun _ _ i _ => 250 + C - (intOf i).toNat)
            case atStart => exact ⟨0, Nat.zero_le _, rfl, Lib.hid ⟨⟨rfl, .inl ⟨rfl, rfl⟩⟩, ⟨rfl, .inl ⟨rfl, rfl⟩⟩, Below.refl _ _⟩⟩
            case round =>
              obtain ⟨q, hq, rfl, HQ⟩ := hrel
              by_cases hlt3 : q < 250 + C
              · have d3 : decide ((q : Int) < (250 : Int) + (C : Int)) = true := by simp; omega
                have hown1 := HQ.out.1
                have hown2 := HQ.out.2.1
                go_wp2_with (first | (at_builtin; refine wpList_append_own _ rfl (.tmp 88) (.tmp 90) 24 rfl w3.heap.size 32 i1 _ 3 56 Try.underlying24 hj1 hy0 hy1 hy2 rfl (by decide) u15 q _ rfl (hown1.alloc _) ⟨_, 0, none⟩ 1 1 _ rfl rfl (World.news_of_block (heap_alloc_new _ _)) four_cells (by unfold maxLen; omega) (by omega) (by have := HQ.out.2.2.size; simp; omega) ?_; intro v2 w4 ho hg _; have ho2 := (hown2.alloc (.cells #[.int .i64 4, .slice none 0 0, .slice none 0 0] 32)).kept hg (own_apart2 hown2 hown1 (by decide)); have hb4 : Below w3.heap.size w3 w4 := (HQ.out.2.2.alloc HQ.out.2.2.size _).grown hg (by have := HQ.out.2.2.size; simp; omega) (fun k hk => (hown1.lt k hk).1); have HB4 := Lib.hid hb4; clear hown1 hown2 hg hb4) | (at_builtin; refine wpList_append_own _ rfl (.tmp 92) (.tmp 93) 27 rfl w3.heap.size 5 i0 (.int .u8 0) 1 1 Try.underlying27 hi hz0 hz1 hz2 rfl (by decide) u16 (2 * q) _ rfl (ho2.alloc _) ⟨_, 0, none⟩ 2 2 _ rfl rfl (World.news_of_block (heap_alloc_new _ _)) (two_cells _ _) (by unfold maxLen; omega) (by omega) (by have := HB4.out.size; simp; omega) ?_; intro a2 w5 ho5 hg5 _))
                have hrow : w5.ownsRow w3.heap.size 32 3 v2 (q + 1) (fourC (q + 1)) := (ho.alloc (.cells #[.int .u8 4, .int .u8 0] 5)).kept hg5 (own_apart2 ho ho2 (by decide))
                have hrow2 : w5.ownsRow w3.heap.size 5 1 a2 (2 * (q + 1)) (Us (flatB (q + 1))) := by
                  rw [flatB_snoc, ← pair_u8 4 0 4 0 rfl rfl]
                  exact ho5
                have hb5 : Below w3.heap.size w3 w5 := (HB4.out.alloc HB4.out.size _).grown hg5 (by have := HB4.out.size; simp; omega) (fun k hk => (ho2.lt k hk).1)
                have HF := Lib.hid (show Two w3 w5 v2 a2 (q + 1) from ⟨hrow, hrow2, hb5⟩)
                clear hrow hrow2 hb5 ho ho2 ho5 hg5 HB4
                go_roundw
                case rel => exact ⟨q + 1, by omega, by go_num, HF⟩
                case measure => simp [intOf]; omega
              · obtain rfl : q = 250 + C := by omega
                have hC2 := lim_flat ⟨C, hC⟩
                simp only at hC2
                obtain ⟨m1, m2, m3⟩ := hC2
                obtain ⟨Al, cl, hvl⟩ : ∃ Al cl, u15 = .slice Al (250 + C) cl := by
                  rcases HQ.out.1.2 with ⟨h1, h2⟩ | ⟨g, cap, cur, h1, _⟩
                  · omega
                  · exact ⟨_, cap, h1⟩
                obtain ⟨Aa, ca, hva⟩ := own_form HQ.out.2.1
                subst hvl hva
                have hcapa := own_cap HQ.out.2.1
                by_cases hC6 : 250 + C ≤ 256
                · rw [if_pos hC6] at m1 m2
                  have hEn := tlv_encode (flatF (250 + C)) Al cl wr (by rw [flatF_size]; omega) (flatF_ok _) (four_sees HQ.out.1)
                  rw [flatF_len, m1] at hEn
                  obtain ⟨B2, hB2⟩ : ∃ B2, B2 = encB (flatF (250 + C)) := ⟨_, rfl⟩
                  rw [← hB2] at hEn
                  have HS5 := Lib.hid (show Sees wr wr.heap.size Aa (Us (flatB (250 + C))) from Sees.of_own HQ.out.2.1)
                  have HB5 := Lib.hid (below_on HB3.out HQ.out.2.2)
                  clear hB2 HQ HB3
                  have HEN := Lib.hid hEn
                  clear hEn m1
                  go_wp2_with fail
                  refine HEN.out.mono ?_
                  rintro e w6 ⟨A6, c6, rfl, _, hb6⟩
                  have hP2 := tlv_parse true (flatB (250 + C)) Aa ca w6 (by rw [flatB_length]; omega) (by rw [flatB_length]; exact hcapa.1) (HS5.out.on hb6)
                  rw [flatB_length] at hP2
                  have HP2 := Lib.hid (hP2.mono fun e w' h => par_code h)
                  have HB6 := Lib.hid (below_on HB5.out hb6)
                  clear hP2 hcapa HS5 HB5 hb6 HEN
                  go_wp2_with fail
                  refine HP2.out.mono ?_
                  rintro e w7 ⟨A7, c7, rfl, hb7⟩
                  rw [m2]
                  have HB7 := Lib.hid (below_on HB6.out hb7)
                  have HM3 := Lib.hid m3
                  clear m2 m3 HB6 hb7 HP2
                  go_wp2_with fail
                  refine (awake _).mono ?_
                  rintro e w8 ⟨rfl, hb8⟩
                  have HB8 := Lib.hid (below_on HB7.out hb8)
                  clear HB7 hb8
                  rw [HM3.out hC6]
                  have d9 : decide ((250 : Int) + (C : Int) ≤ 256) = true := by simp; omega
                  clear HM3
                  go_wp2_with fail
                  go_ret
                  exact ⟨rfl, HB8.out⟩
                · rw [if_neg hC6] at m1 m2
                  have hEn := tlv_encode (flatF (250 + C)) Al cl wr (by rw [flatF_size]; omega) (flatF_ok _) (four_sees HQ.out.1)
                  rw [flatF_len, m1] at hEn
                  obtain ⟨B2, hB2⟩ : ∃ B2, B2 = encB (flatF (250 + C)) := ⟨_, rfl⟩
                  rw [← hB2] at hEn
                  have HS5 := Lib.hid (show Sees wr wr.heap.size Aa (Us (flatB (250 + C))) from Sees.of_own HQ.out.2.1)
                  have HB5 := Lib.hid (below_on HB3.out HQ.out.2.2)
                  clear hB2 HQ HB3
                  have HEN := Lib.hid hEn
                  clear hEn m1
                  go_wp2_with fail
                  refine HEN.out.mono ?_
                  rintro e w6 ⟨A6, c6, rfl, _, hb6⟩
                  have hP2 := tlv_parse true (flatB (250 + C)) Aa ca w6 (by rw [flatB_length]; omega) (by rw [flatB_length]; exact hcapa.1) (HS5.out.on hb6)
                  rw [flatB_length] at hP2
                  have HP2 := Lib.hid (hP2.mono fun e w' h => par_code h)
                  have HB6 := Lib.hid (below_on HB5.out hb6)
                  clear hP2 hcapa HS5 HB5 hb6 HEN
                  go_wp2_with fail
                  refine HP2.out.mono ?_
                  rintro e w7 ⟨A7, c7, rfl, hb7⟩
                  rw [m2]
                  have HB7 := Lib.hid (below_on HB6.out hb7)
                  have HM3 := Lib.hid m3
                  clear m2 m3 HB6 hb7 HP2
                  go_wp2_with fail
                  refine (awake _).mono ?_
                  rintro e w8 ⟨rfl, hb8⟩
                  have HB8 := Lib.hid (below_on HB7.out hb8)
                  clear HB7 hb8
                  have d9 : decide ((250 : Int) + (C : Int) ≤ 256) = false := by simp; omega
                  clear HM3
                  go_wp2_with fail
                  go_ret
                  exact ⟨rfl, HB8.out⟩

/-! ### the given statement, out of the walk -/
set_option maxRecDepth 100000 in
theorem lifted (os : Os) (started : os.Started) (H : Type) (enc : TypeId × Value → H) :
    ReturnsInHanded {} Try.checked os 10 .any (Rows.tlvLimitsSpec.pre6 enc Try.prog Try.f10 Rows.tlvLimitsRow.domain false) (Rows.tlvLimitsSpec.post enc Try.prog Try.f10 false true false false) := by
  refine returnsInHanded_of_change_sized (C := Try.checked) own started (by kernel_rfl) Try.func10
    (ChangeSpec.witness6 (enc := enc) (C := Try.checked) false ⟨#[], #[.int .i64 0, .int .i64 0], []⟩ 8 (by kernel_rfl) (by kernel_rfl) (by kernel_rfl) (by kernel_rfl)) ?_
  intro W base args ds gs before hval0 hW hcnd hsz0 _
  have hsz : (DataW.weightsEach Try.prog (Try.f10.params.toList ++ Rows.tlvLimitsSpec.plain.varTypes Try.prog) (ds ++ gs)).all (· ≤ reachBytes) = true := hsz0
  have hval : ∀ (j : Nat) t v, Try.f10.params[j]? = some t → args[j]? = some v → Value.okWide Try.prog W .any base t v := hval0
  have hW' := hW
  obtain ⟨p, q, hA0, hV, rfl, hfz, hnd⟩ := hW
  have hA : DataW.TrodAll enc Try.prog W 0 (fun _ => true) true Try.f10.params.toList args.toList ds p := hA0
  rw [Try.params10] at hA hval hsz
  obtain ⟨v0, vs0, d0, ds0, p0, q0, hargs, rfl, rfl, h0, r0⟩ := trodAll_cons hA
  obtain ⟨v1, vs1, d1, ds1, p1, q1, rfl, rfl, rfl, h1, r1⟩ := trodAll_cons r0
  obtain ⟨rfl, rfl, rfl⟩ := trodAll_nil r1
  obtain rfl : args = #[v0, v1] := by cases args; simp_all
  obtain ⟨rfl, rfl⟩ := trodVars_none hV
  obtain ⟨n0, rfl, rfl, rfl, w0⟩ := open_int Try.underlying3 (hval 0 3 v0 rfl rfl) h0
  obtain ⟨n1, rfl, rfl, rfl, w1⟩ := open_int Try.underlying3 (hval 1 3 v1 rfl rfl) h1
  clear hA0 hval0
  refine (walk n0 n1 W w0 w1).mono fun e W' ⟨he, bel⟩ => ?_
  subst he
  exact ⟨_, rfl, _, _, _, [], _, [], hW', trodAll_mk1 (shut_bool Try.underlying4 _), (trodAll_cons_mk (shut_int Try.underlying3 w0) (trodAll_cons_mk (shut_int Try.underlying3 w1) trodAll_mk0)), rfl, bel.frame _, fun h => by cases h⟩

theorem proved : Rows.TlvLimitsSaid :=
  OpenClaim.holds_of_wide 10 Try.f10 rfl rfl rfl rfl rfl rfl rfl ⟨rfl, rfl, rfl, rfl, rfl⟩ rfl rfl rfl rfl rfl (by kernel_rfl) Try.func10 (by kernel_rfl)
    (of_decide_eq_true (by kernel_rfl)) (by unfold Func.isWrapper; first | (rw [if_pos (by decide +kernel)]; kernel_rfl) | (rw [if_neg (by decide +kernel)]; exact ⟨rfl, rfl⟩))
    (fun os started H enc _ => lifted os started H enc)
end Go.Proofs.Ytofhillhpedifaa.tlvLimits
