/-
  What is proved here: words for the blocks that the iterator over choices keeps: those that never turn (F), and the rows of bytes that it writes.
-/
import Derived.Test.YtibahbkjjfmbgaaGreatDoorUX2
import Derived.Test.YtibahbkjjfmbgaaGreatDoorUX1
import Derived.Test.YtibahbkjjfmbgaaGreatDoorUA5
import Derived.Test.YtibahbkjjfmbgaaGreatDoorUY4
import Derived.Test.YtibahbkjjfmbgaaGreatDoorUY18
import Derived.Test.YtibahbkjjfmbgaaGreatDoorUA1
namespace Go.Proofs.YtibahbkjjfmbgaaGreatDoor
open Go.RowKit Go.Shelf
set_option linter.unusedVariables false
structure ItS (lo hi : Nat) (F : List (Nat × List Value)) (n : Nat) (gR : Nat → Nat) (X : World) (R : List (List UInt8)) : Prop where
 sz : hi ≤ X.heap.size
 len : R.length = n
 fx : ∀ g vs, (g, vs) ∈ F → lo ≤ g ∧ g < hi ∧ RowV X g vs
 rw : ∀ i, i < n → lo ≤ gR i ∧ gR i < hi ∧ RowV X (gR i) (Us (R.getD i []))
 ne : ∀ i j, i < n → j < n → i ≠ j → gR i ≠ gR j
 nf : ∀ g vs, (g, vs) ∈ F → ∀ i, i < n → g ≠ gR i
section
variable {lo hi n : Nat} {F : List (Nat × List Value)} {gR : Nat → Nat} {X Y : World} {R : List (List UInt8)}
theorem ItS.keeps (h : ItS lo hi F n gR X R) (hk : Keeps lo hi X Y) : ItS lo hi F n gR Y R :=
 ⟨Nat.le_trans h.sz hk.1, h.len, fun g vs hg => ⟨(h.fx g vs hg).1, (h.fx g vs hg).2.1, (h.fx g vs hg).2.2.same (hk.2 g (h.fx g vs hg).1 (h.fx g vs hg).2.1 (h.fx g vs hg).2.2.lt)⟩,
  fun i hi => ⟨(h.rw i hi).1, (h.rw i hi).2.1, (h.rw i hi).2.2.same (hk.2 _ (h.rw i hi).1 (h.rw i hi).2.1 (h.rw i hi).2.2.lt)⟩, h.ne, h.nf⟩
theorem ItS.on (h : ItS lo hi F n gR X R) (hb : Below X.heap.size X Y) : ItS lo hi F n gR Y R := h.keeps (Keeps.of_below hb)
theorem getD_set_row (R : List (List UInt8)) (i j : Nat) (r : List UInt8) (hi : i < R.length) : (R.set i r).getD j [] = if j = i then r else R.getD j [] := by
 by_cases h : j = i
 · subst h; rw [if_pos rfl]; simp [List.getD, hi]
 · rw [if_neg h]; simp [List.getD, List.getElem?_set_ne (Ne.symm h)]
theorem ItS.set (h : ItS lo hi F n gR X R) {i k : Nat} (c : UInt8) (hi' : i < n) (hw : Wr X Y (gR i)) (hr : RowV Y (gR i) ((Us (R.getD i [])).set k (U c))) : ItS lo hi F n gR Y (R.set i ((R.getD i []).set k c)) := by
 refine ⟨by rw [hw.2.2.2.1]; exact h.sz, by rw [List.length_set]; exact h.len, fun g vs hg => ⟨(h.fx g vs hg).1, (h.fx g vs hg).2.1, (h.fx g vs hg).2.2.wr hw (h.nf g vs hg i hi')⟩, fun j hj => ⟨(h.rw j hj).1, (h.rw j hj).2.1, ?_⟩, h.ne, h.nf⟩
 rw [getD_set_row R i j _ (by rw [h.len]; exact hi')]
 split
 · rename_i e; subst e
   rw [← Us_set]; exact hr
 · rename_i e
   exact (h.rw j hj).2.2.wr hw (h.ne j i hj hi' e)
theorem ItS.turns (h : ItS lo hi F n gR X R) {i : Nat} (hi' : i < n) (hw : Wr X Y (gR i)) : Turns lo hi X Y :=
 ⟨⟨hw.1, hw.2.1, hw.2.2.1, by rw [hw.2.2.2.1]; exact Nat.le_refl _, fun k hk => hw.2.2.2.2 k (by have := (h.rw i hi').1; omega)⟩, fun k hk _ => hw.2.2.2.2 k (by have := (h.rw i hi').2.1; omega)⟩
theorem Own.its {w cur : World} {R : List (List UInt8)} (hlen : R.length = n) (h : Own w cur (F ++ (List.range n).map fun i => (gR i, Us (R.getD i [])))) (hh : cur.heap.size = hi) (hl : w.heap.size = lo) : ItS lo hi F n gR cur R := by
 subst hh hl
 have hrow : ∀ i, i < n → (F ++ (List.range n).map fun i => (gR i, Us (R.getD i [])))[F.length + i]? = some (gR i, Us (R.getD i [])) := fun i hi => by
  rw [List.getElem?_append_right (by omega), Nat.add_sub_cancel_left, List.getElem?_map, List.getElem?_range hi]; rfl
 have hf : ∀ g vs, (g, vs) ∈ F → ∃ j, j < F.length ∧ (F ++ (List.range n).map fun i => (gR i, Us (R.getD i [])))[j]? = some (g, vs) := fun g vs hg => by
  obtain ⟨j, hj, e⟩ := List.getElem_of_mem hg
  exact ⟨j, hj, by rw [List.getElem?_append_left hj, List.getElem?_eq_getElem hj, e]⟩
 refine ⟨Nat.le_refl _, hlen, fun g vs hg => ?_, fun i hi => ⟨h.ge (hrow i hi), (h.row (hrow i hi)).lt, h.row (hrow i hi)⟩, fun i j hi hj hne => h.2.2 _ _ _ _ _ _ (hrow i hi) (hrow j hj) (by omega), fun g vs hg i hi => ?_⟩
 · obtain ⟨j, _, e⟩ := hf g vs hg
   exact ⟨h.ge e, (h.row e).lt, h.row e⟩
 · obtain ⟨j, hj, e⟩ := hf g vs hg
   exact h.2.2 _ _ _ _ _ _ e (hrow i hi) (by omega)
end
def OptF (F : List (Nat × List Value)) (go : Nat) (D : List (List (List UInt8))) : Prop :=
 ∃ vs : List Value, (go, vs) ∈ F ∧ vs.length = D.length ∧ ∀ (i : Nat) (r : List (List UInt8)), D[i]? = some r → ∃ (gO : Nat) (us : List Value), vs[i]? = some (Value.slice (some ⟨gO, 0, none⟩) r.length r.length) ∧ (gO, us) ∈ F ∧ us.length = r.length ∧
  ∀ (k : Nat) (s : List UInt8), r[k]? = some s → ∃ (g c : Nat) (ex : List Value), us[k]? = some (Value.slice (some ⟨g, 0, none⟩) s.length c) ∧ (g, Us s ++ ex) ∈ F
def rwV (gR : Nat → Nat) (D : List (List (List UInt8))) : List Value := (List.range D.length).map fun i => .slice (some ⟨gR i, 0, none⟩) (D.getD i []).length (D.getD i []).length
theorem rwV_get {gR : Nat → Nat} {D : List (List (List UInt8))} {i : Nat} (h : i < D.length) : (rwV gR D)[i]? = some (.slice (some ⟨gR i, 0, none⟩) (D.getD i []).length (D.getD i []).length) := by simp [rwV, h]
def outL (D : List (List (List UInt8))) (R : List (List UInt8)) (i k : Nat) : List (List (List UInt8)) :=
 if i < D.length then (prodL ((D.getD i []).drop k)).flatMap fun q => (sufL (D.drop (i + 1))).map fun t => R.take i ++ ((R.getD i []).take k ++ q) :: t else [R]
theorem drop_cons {α : Type} (d : α) : ∀ (l : List α) (i : Nat), i < l.length → l.drop i = l.getD i d :: l.drop (i + 1)
 | [], i, h => by simp at h
 | x :: l, 0, _ => rfl
 | x :: l, i + 1, h => by
  show l.drop i = l.getD i d :: l.drop (i + 1)
  exact drop_cons d l i (by simpa using h)
theorem out_start {D : List (List (List UInt8))} {R : List (List UInt8)} (h : 0 < D.length) : outL D R 0 0 = sufL D := by
 unfold outL
 rw [if_pos h]
 rcases D with _ | ⟨r, D⟩
 · simp at h
 · simp [sufL]
theorem out_row {D : List (List (List UInt8))} {R : List (List UInt8)} {i k : Nat} (hi : i < D.length) (hk : (D.getD i []).length ≤ k) (hR : R.length = D.length) (hRi : (R.getD i []).length ≤ k) : outL D R i k = outL D R (i + 1) 0 := by
 unfold outL
 rw [if_pos hi, List.drop_eq_nil_of_le hk]
 have e1 : (R.getD i []).take k = R.getD i [] := List.take_of_length_le hRi
 have e2 : R.take (i + 1) = R.take i ++ [R.getD i []] := by
  rw [List.take_add_one]
  congr 1
  simp [List.getD, (by omega : i < R.length)]
 by_cases h1 : i + 1 < D.length
 · rw [if_pos h1]
   simp only [prodL, List.flatMap_cons, List.flatMap_nil, List.append_nil, e1, e2]
   rw [drop_cons [] D (i + 1) h1]
   simp only [sufL, List.map_flatMap, List.map_map, List.drop_zero, List.take_zero, List.nil_append, List.append_assoc, List.cons_append]
   rfl
 · rw [if_neg h1, List.drop_eq_nil_of_le (by omega)]
   have e3 : R = R.take i ++ [R.getD i []] := by rw [← e2, List.take_of_length_le (by omega)]
   simp only [prodL, sufL, List.flatMap_cons, List.flatMap_nil, List.append_nil, e1, List.map_cons, List.map_nil]
   rw [← e3]
theorem out_place {D : List (List (List UInt8))} {R : List (List UInt8)} {i k : Nat} (hi : i < D.length) (hk : k < (D.getD i []).length) (hR : R.length = D.length) (hRi : (R.getD i []).length = (D.getD i []).length) :
 outL D R i k = ((D.getD i []).getD k []).flatMap fun c => outL D (R.set i ((R.getD i []).set k c)) i (k + 1) := by
 unfold outL
 simp only [if_pos hi]
 rw [drop_cons [] (D.getD i []) k hk]
 simp only [prodL, List.flatMap_assoc]
 congr 1
 funext c
 have e1 : ((R.set i ((R.getD i []).set k c)).getD i []).take (k + 1) = (R.getD i []).take k ++ [c] := by
  rw [getD_set_row _ _ _ _ (by omega), if_pos rfl]
  have hk2 : k < (R.getD i []).length := by omega
  rw [List.take_add_one, List.take_set_of_le (by omega), List.getElem?_set_self hk2]
  rfl
 have e2 : (R.set i ((R.getD i []).set k c)).take i = R.take i := List.take_set_of_le (Nat.le_refl _)
 simp only [e1, e2, List.flatMap_map]
 congr 1
 funext q
 simp
theorem out_same {D : List (List (List UInt8))} {R R' : List (List UInt8)} {i k : Nat} (hi : i < D.length) (h1 : R'.take i = R.take i) (h2 : (R'.getD i []).take k = (R.getD i []).take k) : outL D R' i k = outL D R i k := by
 unfold outL
 simp only [if_pos hi, h1, h2]
end Go.Proofs.YtibahbkjjfmbgaaGreatDoor
namespace Go.Proofs.YtibahbkjjfmbgaaGreatDoor
open Go.RowKit
set_option linter.unusedVariables false
set_option maxHeartbeats 1600000 in
set_option maxRecDepth 20000 in
theorem p_textsR (D : List (List (List UInt8))) (R : List (List UInt8)) (hn : D.length = 2 ∨ D.length = 3) (hR : R.length = D.length) (hl : ∀ i, i < D.length → (R.getD i []).length = (D.getD i []).length) (gr : Nat) (gR : Nat → Nat) (w : World)
 (h1 : RowV w gr (rwV gR D)) (h2 : ∀ i, i < D.length → RowV w (gR i) (Us (R.getD i []))) :
 Calls Tryz.prog 124 #[.slice (some ⟨gr, 0, none⟩) D.length D.length] w fun e w' => ∃ g, e = .returned (.slice (some ⟨g, 0, none⟩) R.length R.length) ∧ w.heap.size ≤ g ∧ RowV w' g (strV R) ∧ Below w.heap.size w w' := by
 have H1 := Lib.hid h1
 have H2 := Lib.hid h2
 have HL := Lib.hid hl
 have HR := Lib.hid hR
 obtain ⟨n, hnn⟩ : ∃ n, D.length = n := ⟨_, rfl⟩
 rw [hR]
 rw [hnn] at hn ⊢
 have HNN := Lib.hid hnn
 have HD := Lib.hid hn
 have hn3 : n ≤ 3 := by rcases hn with h | h <;> omega
 have HO := Lib.hid (Own.start w)
 clear h1 h2 hl hR hnn hn
 go_enter Tryz.func124, Tryz.ntmps124
 go_wp2_with (first
  | ((with_reducible refine at_make_ (d := 7) ?_); refine wpList_make_v rfl _ _ _ rfl _ _ rfl rfl (List.replicate n (Value.string ⟨#[]⟩)) n _ (mk_strs n HD.out _) ?_; intro gs vs hf hr; replace HO := Lib.hid (HO.out.new hf hr); clear hf hr))
 go_loopw [10] (fun i wq => ∃ (j : Nat), j ≤ n ∧ i = .int .i64 (j : Int) ∧ Hid (Own w wq [(gs, svV R j n)])) (fun i _ => n - (intOf i).toNat)
 case atStart => exact ⟨0, by omega, rfl, Lib.hid (by rw [svV_zero]; exact HO.out)⟩
 case round =>
  clear HO
  obtain ⟨j, hj, rfl, HO⟩ := hrel
  by_cases hlt : j < n
  ·
   have hj0 : (j : Int) < (n : Int) := by omega
   obtain ⟨x, hx⟩ : ∃ x, R.getD j [] = x := ⟨_, rfl⟩
   obtain ⟨ln, hln⟩ : ∃ ln, x.length = ln := ⟨_, rfl⟩
   have HXJ := Lib.hid hx
   have HC := Lib.hid (show wr.cell? ⟨gr, j, none⟩ = some (.slice (some ⟨gR j, 0, none⟩) ln ln) from by
    rw [← hln, ← hx, HL.out j (by rw [HNN.out]; exact hlt)]
    exact ((H1.out.on HO.out.bl).cell j).trans (rwV_get (by rw [HNN.out]; exact hlt)))
   have hcw := run_conv wr wr.heap.size (some ⟨gR j, 0, none⟩) x (by rw [← hx]; exact ((H2.out j (by rw [HNN.out]; exact hlt)).on HO.out.bl).sees0) ln ln hln.symm
   clear hx hln
   go_wp2_with (first
    | ((with_reducible refine at_load_ (d := 18) ?_); refine wpList_load_c rfl _ _ rfl gr j rfl _ HC.out (fun w => by kernel_rfl) ?_)
    | ((with_reducible refine at_store_ (i := 20) ?_); refine wpList_store_at rfl _ (.tmp 20) _ rfl gs j (svV R j n) (.string (S x)) rfl rfl (HO.out.row (i := 0) rfl) (by rw [svV_len]; exact hlt) rfl rfl size_st ?_; intro w7 hw hr; replace HO := Lib.hid (HO.out.set (i := 0) rfl hw hr); clear hw hr))
   go_roundw
   case rel =>
    refine ⟨j + 1, by omega, by go_num, Lib.hid ?_⟩
    have h1 := HO.out
    rw [← HXJ.out, svV_set hlt] at h1
    exact h1
   case measure => simp [intOf]; omega
  · obtain rfl : j = n := by omega
    go_wp2
    go_ret
    have h1 := HO.out.row (i := 0) rfl
    rw [svV_all (by rw [HR.out, HNN.out])] at h1
    exact ⟨_, rfl, HO.out.ge (i := 0) rfl, h1, HO.out.bl⟩
end Go.Proofs.YtibahbkjjfmbgaaGreatDoor
namespace Go.Proofs.YtibahbkjjfmbgaaGreatDoor
open Go.RowKit Go.Shelf
set_option linter.unusedVariables false
attribute [local go_sem] Oper.semAt_some
structure ChF (F : List (Nat × List Value)) (D : List (List (List UInt8))) (gR : Nat → Nat) (l rB yB cB oB gr go : Nat) : Prop where
 r : (rB, [Value.slice (some ⟨gr, 0, none⟩) D.length D.length]) ∈ F
 y : (yB, [Value.func (.yield l) #[] #[]]) ∈ F
 c : (cB, [Value.func (.func 123) #[] #[.pointer (some ⟨rB, 0, none⟩), .pointer (some ⟨yB, 0, none⟩), .pointer (some ⟨cB, 0, none⟩), .pointer (some ⟨oB, 0, none⟩)]]) ∈ F
 o : (oB, [Value.slice (some ⟨go, 0, none⟩) D.length D.length]) ∈ F
 gr : (gr, rwV gR D) ∈ F
 op : OptF F go D
def PostC (lo hi : Nat) (F : List (Nat × List Value)) (D : List (List (List UInt8))) (gR : Nat → Nat) (J Jx : List (List (List UInt8)) → World → Prop) (pre : List (List (List UInt8))) (R : List (List UInt8)) (i k : Nat) (e : Ending) (Y : World) : Prop :=
 (e = .returned (.bool true) ∧ J (pre ++ outL D R i k) Y ∧ ∃ R', ItS lo hi F D.length gR Y R' ∧ (∀ j, j < D.length → (R'.getD j []).length = (D.getD j []).length) ∧ R'.take i = R.take i ∧ (R'.getD i []).take k = (R.getD i []).take k) ∨
 (e = .returned (.bool false) ∧ ∃ q, q <+: outL D R i k ∧ Jx (pre ++ q) Y)
section
variable {lo hi l rB yB cB oB gr go : Nat} {F : List (Nat × List Value)} {D : List (List (List UInt8))} {gR : Nat → Nat} {J Jx : List (List (List UInt8)) → World → Prop} {xs : List (List (List UInt8))}
set_option maxHeartbeats 1600000 in
set_option maxRecDepth 20000 in
theorem choose_end (hF : ChF F D gR l rB yB cB oB gr go) (hn : D.length = 2 ∨ D.length = 3)
 (hY : ∀ pre x g X, J pre X → hi ≤ g → pre ++ [x] <+: xs → RowV X g (strV x) → YieldAt Fence.wide 5 Tryz.prog l #[.slice (some ⟨g, 0, none⟩) x.length x.length] X fun e Y => Keeps lo hi X Y ∧ ((e = .returned (.bool true) ∧ J (pre ++ [x]) Y) ∨ (e = .returned (.bool false) ∧ Jx (pre ++ [x]) Y)))
 (hJ : ∀ s X Y, J s X → Turns lo hi X Y → J s Y) (hlo : lo ≤ hi) (k : Nat) (pre : List (List (List UInt8))) (R : List (List UInt8)) (X : World) (hI : ItS lo hi F D.length gR X R) (hl : ∀ j, j < D.length → (R.getD j []).length = (D.getD j []).length) (h0 : J pre X) (hx : pre ++ [R] <+: xs) :
 Calls Tryz.prog 123 #[.int .i64 (D.length : Int), .int .i64 (k : Int), .pointer (some ⟨rB, 0, none⟩), .pointer (some ⟨yB, 0, none⟩), .pointer (some ⟨cB, 0, none⟩), .pointer (some ⟨oB, 0, none⟩)] X (PostC lo hi F D gR J Jx pre R D.length k) := by
 have hout : outL D R D.length k = [R] := by unfold outL; rw [if_neg (Nat.lt_irrefl _)]
 have HF := Lib.hid hF
 have HY := Lib.hid hY
 have HJ := Lib.hid hJ
 have HI := Lib.hid hI
 have HL := Lib.hid hl
 have H0 := Lib.hid h0
 have HX := Lib.hid hx
 have HD := Lib.hid hn
 have HO := Lib.hid hout
 have HLO := Lib.hid hlo
 have e1 := (hI.fx _ _ hF.r).2.2.cell 0
 have e2 := (hI.fx _ _ hF.y).2.2.cell 0
 simp only [List.getElem?_cons_zero] at e1 e2
 have hRl := hI.len
 clear hF hY hJ hI hl h0 hx hn hout hlo
 obtain ⟨n, hnn⟩ : ∃ n, D.length = n := ⟨_, rfl⟩
 have HN := Lib.hid hnn
 rw [hnn] at e1 HI HL HD HO hRl ⊢
 clear hnn
 refine (callsIn_wide (n := 9)).1 ?_
 refine callsIn_of_wp Tryz.func123 rfl trivial ?_ rfl
 simp only [Tryz.ntmps123, List.size_toArray, List.length_cons, List.length_nil, Nat.reduceAdd, Nat.reduceSub, Array.replicate_succ, Array.replicate_zero, List.push_toArray, List.append_toArray, List.nil_append, List.cons_append]
 gi_wp2_with fail
 have hS0 : ItS lo hi F n gR X.drew R := HI.out.on ((Below.refl _ _).drew)
 refine regionX (S := fun Y => ItS lo hi F n gR Y R) (by kernel_rfl) ?_
 have L0 : ∀ Y, ItS lo hi F n gR Y R → Y.cell? ⟨yB, 0, none⟩ = some (.func (.yield l) #[] #[]) := fun Y hS => by have := (hS.fx _ _ HF.out.y).2.2.cell 0; simpa using this
 have L1 : ∀ Y, ItS lo hi F n gR Y R → Y.cell? ⟨rB, 0, none⟩ = some (.slice (some ⟨gr, 0, none⟩) n n) := fun Y hS => by have := (hS.fx _ _ HF.out.r).2.2.cell 0; rw [HN.out] at this; simpa using this
 have HS0 := Lib.hid hS0
 refine anyX_take (i := 0) (oi := ⟨some 15, _, _, _, _, _⟩) (v := .func (.yield l) #[] #[]) rfl (by kernel_rfl) (by kernel_rfl) (by kernel_rfl) (fun _ _ _ h => h) (Or.inl ⟨by rfl, (by intro w hSw; have h1 := L0 w hSw; go_simp; first | done | with_reducible rfl)⟩) HS0.out ?_
 simp only [Act.put]
 refine anyX_take (i := 1) (oi := ⟨some 16, _, _, _, _, _⟩) (v := .slice (some ⟨gr, 0, none⟩) n n) rfl (by kernel_rfl) (by kernel_rfl) (by kernel_rfl) (fun _ _ _ h => h) (Or.inl ⟨by rfl, (by intro w hSw; have h1 := L1 w hSw; go_simp; first | done | with_reducible rfl)⟩) HS0.out ?_
 simp only [Act.put]
 refine anyX_one (i := 2) (o := ⟨some 17, _, _, _, _, _⟩) (by kernel_rfl) rfl (by rfl) ?_
 have HT := p_textsR D R (by rw [HN.out]; exact HD.out) (by rw [HN.out]; exact hRl) (by rw [HN.out]; exact HL.out) gr gR X.drew (HS0.out.fx _ _ HF.out.gr).2.2 (fun i hi' => (HS0.out.rw i (by rw [← HN.out]; exact hi')).2.2)
 rw [HN.out] at HT
 refine opX_call (by go_simp; first | done | with_reducible rfl) HT ?_
 clear HT
 rintro e w1 ⟨g, rfl, hg, hr, hb⟩
 have HS1 := Lib.hid (HS0.out.on hb)
 have hj1 := HJ.out _ _ _ H0.out (Turns.of_below (X := X) (Y := w1) (((Below.refl _ X).drew).trans hb) (Nat.le_trans HLO.out HI.out.sz))
 have hyy := HY.out pre R g w1 hj1 (Nat.le_trans HS0.out.sz hg) HX.out hr
 rw [hRl] at hyy
 clear hg hr hb hj1
 rw [hRl]
 refine ⟨_, rfl, HS1.out, ?_⟩
 simp only [Act.put]
 refine anyX_one (i := 3) (o := ⟨some 18, _, _, _, _, _⟩) (by kernel_rfl) rfl (by rfl) ?_
 refine opX_yield (l := l) (fun r hr => by go_simp; first | done | exact hr) hyy ?_
 rintro e w2 ⟨hk, h2⟩
 have HS2 := Lib.hid (HS1.out.keeps hk)
 rcases h2 with ⟨rfl, h2⟩ | ⟨rfl, h2⟩
 · have HJ2 := Lib.hid h2
   clear h2 hk hyy
   refine ⟨_, rfl, HS2.out, ?_⟩
   simp only [Act.put]
   refine anyX_take (i := 4) (oi := ⟨some 8, _, _, _, _, _⟩) (v := .bool true) rfl (by kernel_rfl) (by kernel_rfl) (by kernel_rfl) (fun _ _ _ h => h) (Or.inl ⟨by rfl, (by intro w hSw; go_simp; first | done | with_reducible rfl)⟩) HS2.out ?_
   simp only [Act.put]
   refine anyX_done (by kernel_rfl) ?_ _
   gi_wp2
   go_ret
   exact .inl ⟨rfl, by rw [HO.out]; exact HJ2.out, R, by rw [HN.out]; exact HS2.out, by rw [HN.out]; exact HL.out, rfl, rfl⟩
 · have HJ2 := Lib.hid h2
   clear h2 hk hyy
   refine ⟨_, rfl, HS2.out, ?_⟩
   simp only [Act.put]
   refine anyX_take (i := 4) (oi := ⟨some 8, _, _, _, _, _⟩) (v := .bool false) rfl (by kernel_rfl) (by kernel_rfl) (by kernel_rfl) (fun _ _ _ h => h) (Or.inl ⟨by rfl, (by intro w hSw; go_simp; first | done | with_reducible rfl)⟩) HS2.out ?_
   simp only [Act.put]
   refine anyX_done (by kernel_rfl) ?_ _
   gi_wp2
   go_ret
   exact .inr ⟨rfl, [R], by rw [HO.out]; exact List.prefix_refl _, HJ2.out⟩
end
end Go.Proofs.YtibahbkjjfmbgaaGreatDoor
namespace Go.Proofs.YtibahbkjjfmbgaaGreatDoor
open Go.RowKit Go.Shelf
set_option linter.unusedVariables false
theorem size_ub : (Tryz.prog.info? 5).map (·.size) = some 1 := by kernel_rfl
section
variable {lo hi l rB yB cB oB gr go : Nat} {F : List (Nat × List Value)} {D : List (List (List UInt8))} {gR : Nat → Nat} {J Jx : List (List (List UInt8)) → World → Prop} {xs : List (List (List UInt8))}
theorem PostC.hid {pre : List (List (List UInt8))} {R : List (List UInt8)} {i k : Nat} {e : Ending} {Y : World} (h : PostC lo hi F D gR J Jx pre R i k e Y) :
 (e = .returned (.bool true) ∧ Hid (J (pre ++ outL D R i k) Y ∧ ∃ R', ItS lo hi F D.length gR Y R' ∧ (∀ j, j < D.length → (R'.getD j []).length = (D.getD j []).length) ∧ R'.take i = R.take i ∧ (R'.getD i []).take k = (R.getD i []).take k)) ∨ (e = .returned (.bool false) ∧ Hid (∃ q, q <+: outL D R i k ∧ Jx (pre ++ q) Y)) :=
 h.imp (fun h => ⟨h.1, Lib.hid h.2⟩) (fun h => ⟨h.1, Lib.hid h.2⟩)
def Same2 (D : List (List (List UInt8))) (R : List (List UInt8)) : Prop := ∀ j, j < D.length → (R.getD j []).length = (D.getD j []).length
theorem PostC.row {pre : List (List (List UInt8))} {R : List (List UInt8)} {i k : Nat} {e : Ending} {Y : World} (hi' : i < D.length) (ho : outL D R i k = outL D R (i + 1) 0) (hR : R.length = D.length) (h : PostC lo hi F D gR J Jx pre R (i + 1) 0 e Y) : PostC lo hi F D gR J Jx pre R i k e Y := by
 rcases h with ⟨rfl, h1, R', h2, h3, h4, h5⟩ | ⟨rfl, h1⟩
 · refine .inl ⟨rfl, by rw [ho]; exact h1, R', h2, h3, ?_, ?_⟩
   · have := congrArg (List.take i) h4
     rwa [List.take_take, List.take_take, Nat.min_eq_left (by omega)] at this
   · have e : R'.getD i [] = R.getD i [] := by
      have h6 := congrArg (fun q : List (List UInt8) => q[i]?) h4
      simp only [List.getElem?_take, if_pos (Nat.lt_succ_self i)] at h6
      simp only [List.getD_eq_getElem?_getD, h6]
     rw [e]
 · exact .inr ⟨rfl, by rw [ho]; exact h1⟩
set_option maxHeartbeats 1600000 in
set_option maxRecDepth 20000 in
theorem choose_row (hF : ChF F D gR l rB yB cB oB gr go) (i : Nat) (hi' : i < D.length) (hb : D.length ≤ 3) (hb2 : (D.getD i []).length ≤ 44) (pre : List (List (List UInt8))) (R : List (List UInt8)) (X : World) (hI : ItS lo hi F D.length gR X R)
 (hc : Calls Tryz.prog 123 #[.int .i64 ((i : Int) + 1), .int .i64 0, .pointer (some ⟨rB, 0, none⟩), .pointer (some ⟨yB, 0, none⟩), .pointer (some ⟨cB, 0, none⟩), .pointer (some ⟨oB, 0, none⟩)] X (PostC lo hi F D gR J Jx pre R i (D.getD i []).length)) :
 Calls Tryz.prog 123 #[.int .i64 (i : Int), .int .i64 ((D.getD i []).length : Int), .pointer (some ⟨rB, 0, none⟩), .pointer (some ⟨yB, 0, none⟩), .pointer (some ⟨cB, 0, none⟩), .pointer (some ⟨oB, 0, none⟩)] X (PostC lo hi F D gR J Jx pre R i (D.getD i []).length) := by
 have e1 := (hI.fx _ _ hF.r).2.2.cell 0
 have e2 := (hI.fx _ _ hF.c).2.2.cell 0
 simp only [List.getElem?_cons_zero] at e1 e2
 have e3 := ((hI.fx _ _ hF.gr).2.2.cell i).trans (rwV_get hi')
 obtain ⟨n, hnn⟩ : ∃ n, D.length = n := ⟨_, rfl⟩
 obtain ⟨ln, hln⟩ : ∃ ln, (D.getD i []).length = ln := ⟨_, rfl⟩
 rw [hnn] at e1 hi' hb
 rw [hln] at e3 hc hb2 ⊢
 have HE3 := Lib.hid e3
 have HC := Lib.hid hc
 have i0 : (i : Int) < (n : Int) := by omega
 have i1 : ¬ ((i : Int) = (n : Int)) := by omega
 have hw : wrap64 ((i : Int) + 1) = (i : Int) + 1 := by simp [wrap64]; omega
 clear hF hI e3 hc hnn hln
 go_enter Tryz.func123, Tryz.ntmps123
 go_wp2_with (first
  | ((with_reducible refine at_load_ (d := 23) ?_); refine wpList_load_c rfl _ _ rfl gr i rfl _ HE3.out (fun w => by kernel_rfl) ?_)
  | (go_at_call 123; ((with_reducible refine HC.out.mono ?_); rintro e w5 hp); replace hp := hp.hid; rcases hp with ⟨rfl, HP⟩ | ⟨rfl, HP⟩))
 · go_ret
   exact .inl ⟨rfl, HP.out⟩
 · go_ret
   exact .inr ⟨rfl, HP.out⟩
set_option maxHeartbeats 3200000 in
set_option maxRecDepth 20000 in
theorem choose_place (hF : ChF F D gR l rB yB cB oB gr go) (hJ : ∀ s X Y, J s X → Turns lo hi X Y → J s Y) (hlo : lo ≤ hi) (i k : Nat) (hi' : i < D.length) (hb : D.length ≤ 3) (hk : k < (D.getD i []).length) (hb2 : (D.getD i []).length ≤ 44) (pre : List (List (List UInt8))) (R : List (List UInt8)) (X : World)
 (hI : ItS lo hi F D.length gR X R) (hl : Same2 D R) (h0 : J pre X) (hx : pre ++ outL D R i k <+: xs) (hsl : ((D.getD i []).getD k []).length ≤ 256)
 (ih : ∀ (pre : List (List (List UInt8))) (R : List (List UInt8)) (X : World), ItS lo hi F D.length gR X R → Same2 D R → J pre X → pre ++ outL D R i (k + 1) <+: xs →
  Calls Tryz.prog 123 #[.int .i64 (i : Int), .int .i64 ((k : Int) + 1), .pointer (some ⟨rB, 0, none⟩), .pointer (some ⟨yB, 0, none⟩), .pointer (some ⟨cB, 0, none⟩), .pointer (some ⟨oB, 0, none⟩)] X (PostC lo hi F D gR J Jx pre R i (k + 1))) :
 Calls Tryz.prog 123 #[.int .i64 (i : Int), .int .i64 (k : Int), .pointer (some ⟨rB, 0, none⟩), .pointer (some ⟨yB, 0, none⟩), .pointer (some ⟨cB, 0, none⟩), .pointer (some ⟨oB, 0, none⟩)] X (PostC lo hi F D gR J Jx pre R i k) := by
 obtain ⟨s, hs⟩ : ∃ s, (D.getD i []).getD k [] = s := ⟨_, rfl⟩
 rw [hs] at hsl
 obtain ⟨gO, us, g, cp, ex, m1, m2, m3, m4⟩ : ∃ (gO : Nat) (us : List Value) (g cp : Nat) (ex : List Value), (∀ Y R', ItS lo hi F D.length gR Y R' → Y.cell? ⟨go, i, none⟩ = some (.slice (some ⟨gO, 0, none⟩) (D.getD i []).length (D.getD i []).length)) ∧
  (∀ Y R', ItS lo hi F D.length gR Y R' → Y.cell? ⟨gO, k, none⟩ = some (.slice (some ⟨g, 0, none⟩) s.length cp)) ∧ (g, Us s ++ ex) ∈ F ∧ True := by
  obtain ⟨vs, h1, h2, h3⟩ := hF.op
  obtain ⟨gO, us, h4, h5, h6, h7⟩ := h3 i (D.getD i []) (by simp [List.getD, hi'])
  obtain ⟨g, cp, ex, h8, h9⟩ := h7 k s (by rw [← hs]; simp only [List.getD_eq_getElem?_getD] at hk ⊢; simp [hk])
  exact ⟨gO, us, g, cp, ex, fun Y R' h => ((h.fx _ _ h1).2.2.cell i).trans h4, fun Y R' h => ((h.fx _ _ h5).2.2.cell k).trans h8, h9, trivial⟩
 have e1 : ∀ Y R', ItS lo hi F D.length gR Y R' → Y.cell? ⟨rB, 0, none⟩ = some (.slice (some ⟨gr, 0, none⟩) D.length D.length) := fun Y R' h => by have := (h.fx _ _ hF.r).2.2.cell 0; simpa using this
 have e2 : ∀ Y R', ItS lo hi F D.length gR Y R' → Y.cell? ⟨oB, 0, none⟩ = some (.slice (some ⟨go, 0, none⟩) D.length D.length) := fun Y R' h => by have := (h.fx _ _ hF.o).2.2.cell 0; simpa using this
 have e3 : ∀ Y R', ItS lo hi F D.length gR Y R' → Y.cell? ⟨gr, i, none⟩ = some (.slice (some ⟨gR i, 0, none⟩) (D.getD i []).length (D.getD i []).length) := fun Y R' h => ((h.fx _ _ hF.gr).2.2.cell i).trans (rwV_get hi')
 have e4 : ∀ Y R', ItS lo hi F D.length gR Y R' → Y.cell? ⟨cB, 0, none⟩ = some (Value.func (.func 123) #[] #[.pointer (some ⟨rB, 0, none⟩), .pointer (some ⟨yB, 0, none⟩), .pointer (some ⟨cB, 0, none⟩), .pointer (some ⟨oB, 0, none⟩)]) := fun Y R' h => by have := (h.fx _ _ hF.c).2.2.cell 0; simpa using this
 have e5 : ∀ Y R' (j : Nat), ItS lo hi F D.length gR Y R' → j < s.length → Y.cell? ⟨g, j, none⟩ = some (U (s.getD j 0)) := fun Y R' j h hj => by
  rw [(h.fx _ _ m3).2.2.cell j, List.getElem?_append_left (by rw [Us_length]; exact hj), Us_get hj]
  simp [U, List.getD, hj]
 have hout : ∀ R', R'.take i = R.take i → (R'.getD i []).take k = (R.getD i []).take k → R'.length = D.length → Same2 D R' → ∀ c, outL D (R'.set i ((R'.getD i []).set k c)) i (k + 1) = outL D (R.set i ((R.getD i []).set k c)) i (k + 1) := fun R' t1 t2 t3 t4 c => by
  have hRl := hI.len
  have hli := hl i hi'
  have hli' := t4 i hi'
  refine out_same hi' (by rw [List.take_set_of_le (Nat.le_refl _), List.take_set_of_le (Nat.le_refl _), t1]) ?_
  rw [getD_set_row _ _ _ _ (by omega), getD_set_row _ _ _ _ (by omega), if_pos rfl, if_pos rfl, List.take_add_one, List.take_add_one, List.take_set_of_le (Nat.le_refl _), List.take_set_of_le (Nat.le_refl _), t2, List.getElem?_set_self (by omega), List.getElem?_set_self (by omega)]
 have hsame : ∀ (R' : List (List UInt8)) c, R'.length = D.length → Same2 D R' → Same2 D (R'.set i ((R'.getD i []).set k c)) := fun R' c t3 t4 j hj => by
  rw [getD_set_row _ _ _ _ (by omega)]
  split
  · rename_i e; subst e; rw [List.length_set]; exact t4 _ hj
  · exact t4 _ hj
 have hplace := out_place (D := D) (R := R) hi' hk hI.len (hl i hi')
 rw [hs] at hplace
 have HE1 := Lib.hid e1
 have HE2 := Lib.hid e2
 have HE3 := Lib.hid e3
 have HE4 := Lib.hid e4
 have HE5 := Lib.hid e5
 have HM1 := Lib.hid m1
 have HM2 := Lib.hid m2
 have HOUT := Lib.hid hout
 have HSA := Lib.hid hsame
 have HPL := Lib.hid hplace
 have HIH := Lib.hid ih
 have HJ := Lib.hid hJ
 have HX := Lib.hid hx
 have HLO := Lib.hid hlo
 have HI := Lib.hid hI
 have HL := Lib.hid hl
 have H0 := Lib.hid h0
 have HRL := Lib.hid hI.len
 have HDI := Lib.hid hi'
 have x1 := e1 X R hI
 have x2 := e2 X R hI
 clear e1 e2 e3 e4 e5 m1 m2 m3 m4 hout hsame hplace ih hJ hx hlo hI hl h0 hF hs
 obtain ⟨n, hnn⟩ : ∃ n, D.length = n := ⟨_, rfl⟩
 obtain ⟨ln, hln⟩ : ∃ ln, (D.getD i []).length = ln := ⟨_, rfl⟩
 have HN := Lib.hid hnn
 have HLN := Lib.hid hln
 rw [hnn] at x1 x2 hi' hb HE1 HE2 HE3 HE4 HE5 HM1 HM2 HI
 rw [hln] at hk hb2 HE3 HM1
 have i0 : (i : Int) < (n : Int) := by omega
 have i1 : ¬ ((i : Int) = (n : Int)) := by omega
 have k0 : (k : Int) < (ln : Int) := by omega
 have k1 : ¬ ((k : Int) = (ln : Int)) := by omega
 have hw : wrap64 ((k : Int) + 1) = (k : Int) + 1 := by simp [wrap64]; omega
 clear hnn hln
 go_enter Tryz.func123, Tryz.ntmps123
 go_wp2_with (first
  | ((with_reducible refine at_load_ (d := 23) ?_); refine wpList_load_c rfl _ _ rfl gr i rfl _ (HE3.out _ _ HI.out) (fun w => by kernel_rfl) ?_)
  | ((with_reducible refine at_load_ (d := 33) ?_); refine wpList_load_c rfl _ _ rfl go i rfl _ (HM1.out _ _ HI.out) (fun w => by kernel_rfl) ?_)
  | ((with_reducible refine at_load_ (d := 36) ?_); refine wpList_load_c rfl _ _ rfl gO k rfl _ (HM2.out _ _ HI.out) (fun w => by kernel_rfl) ?_))
 obtain ⟨sn, hsn⟩ : ∃ sn, s.length = sn := ⟨_, rfl⟩
 have HSN := Lib.hid hsn
 rw [hsn] at HE5 hsl
 rw [hsn]
 clear hsn x1 x2
 go_loopw [38] (fun p wr => ∃ (j : Nat) (R' : List (List UInt8)), j ≤ sn ∧ p = .int .i64 (j : Int) ∧ Hid (ItS lo hi F n gR wr R' ∧ Same2 D R' ∧ R'.take i = R.take i ∧ (R'.getD i []).take k = (R.getD i []).take k ∧ J (pre ++ (s.take j).flatMap fun c => outL D (R.set i ((R.getD i []).set k c)) i (k + 1)) wr)) (fun p _ => sn - (intOf p).toNat)
 case atStart => exact ⟨0, R, by omega, rfl, Lib.hid ⟨HI.out, HL.out, rfl, rfl, by simpa using H0.out⟩⟩
 case round =>
  clear HI HL H0
  obtain ⟨j, R', hj, rfl, HH⟩ := hrel
  by_cases hlt : j < sn
  ·
   have hj0 : (j : Int) < (sn : Int) := by omega
   obtain ⟨c, hc⟩ : ∃ c, s.getD j 0 = c := ⟨_, rfl⟩
   have HC5 := Lib.hid (show wr.cell? ⟨g, j, none⟩ = some (U c) from by rw [← hc]; exact HE5.out _ _ _ HH.out.1 hlt)
   have hst : (s.take (j + 1)).flatMap (fun c => outL D (R.set i ((R.getD i []).set k c)) i (k + 1)) = (s.take j).flatMap (fun c => outL D (R.set i ((R.getD i []).set k c)) i (k + 1)) ++ outL D (R.set i ((R.getD i []).set k c)) i (k + 1) := by
    have h1 : s[j]? = some c := by rw [← hc]; simp [List.getD, show j < s.length by rw [HSN.out]; exact hlt]
    rw [List.take_add_one, h1, List.flatMap_append]
    simp
   have hpx : (pre ++ (s.take j).flatMap fun c => outL D (R.set i ((R.getD i []).set k c)) i (k + 1)) ++ outL D (R.set i ((R.getD i []).set k c)) i (k + 1) <+: pre ++ outL D R i k := by
    rw [HPL.out, List.append_assoc, ← hst]
    conv => rhs; rw [← List.take_append_drop (j + 1) s, List.flatMap_append, ← List.append_assoc]
    exact List.prefix_append _ _
   have HST := Lib.hid hst
   have HPX := Lib.hid hpx
   have HRR := Lib.hid (show R'.length = n from HH.out.1.len)
   have y1 := HE1.out _ _ HH.out.1
   clear hc hst hpx
   go_wp2_with (first
    | ((with_reducible refine at_load_ (d := 41) ?_); refine wpList_load_c rfl _ _ rfl g j rfl _ HC5.out (fun w => by kernel_rfl) ?_)
    | ((with_reducible refine at_load_ (d := 45) ?_); refine wpList_load_c rfl _ _ rfl gr i rfl _ (HE3.out _ _ HH.out.1) (fun w => by kernel_rfl) ?_)
    | ((with_reducible refine at_store_ (i := 48) ?_); refine wpList_store_at rfl _ (.tmp 48) _ rfl (gR i) k (Us (R'.getD i [])) (U c) rfl rfl (HH.out.1.rw i hi').2.2 (by rw [Us_length, HH.out.2.1 i HDI.out, HLN.out]; exact hk) rfl rfl size_ub ?_; intro w7 hw7 hr7; have HS7 := Lib.hid (HH.out.1.set c hi' hw7 hr7); have HJ7 := Lib.hid (HJ.out _ _ _ HH.out.2.2.2.2 (HH.out.1.turns hi' hw7)); have y4 := HE4.out _ _ HS7.out; clear hw7 hr7)
    | (go_at_call 123; ((with_reducible refine (HIH.out _ (R'.set i ((R'.getD i []).set k c)) _ (by rw [HN.out]; exact HS7.out) (HSA.out R' c (by rw [HN.out]; exact HRR.out) HH.out.2.1) HJ7.out (by rw [HOUT.out R' HH.out.2.2.1 HH.out.2.2.2.1 (by rw [HN.out]; exact HRR.out) HH.out.2.1 c]; exact HPX.out.trans HX.out)).mono ?_); rintro e w8 hp); replace hp := hp.hid; rcases hp with ⟨rfl, HP⟩ | ⟨rfl, HP⟩))
   · go_roundw
     case rel =>
      obtain ⟨q1, R2, q2, q3, q4, q5⟩ := HP.out
      rw [HOUT.out R' HH.out.2.2.1 HH.out.2.2.2.1 (by rw [HN.out]; exact HRR.out) HH.out.2.1 c, List.append_assoc, ← HST.out] at q1
      refine ⟨j + 1, R2, by omega, by go_num, Lib.hid ⟨by rw [← HN.out]; exact q2, q3, ?_, ?_, q1⟩⟩
      · rw [q4, List.take_set_of_le (Nat.le_refl _)]; exact HH.out.2.2.1
      · have h5 := congrArg (List.take k) q5
        rw [List.take_take, List.take_take, Nat.min_eq_left (by omega), getD_set_row _ _ _ _ (by rw [HRR.out]; exact hi'), if_pos rfl, List.take_set_of_le (Nat.le_refl _)] at h5
        rw [h5]; exact HH.out.2.2.2.1
     case measure => simp [intOf]; omega
   · obtain ⟨q, q1, q2⟩ := HP.out
     rw [HOUT.out R' HH.out.2.2.1 HH.out.2.2.2.1 (by rw [HN.out]; exact HRR.out) HH.out.2.1 c] at q1
     refine bodyPost_ret (results_tmp rfl _ _ _) rfl ?_
     refine .inr ⟨rfl, ((s.take j).flatMap fun c => outL D (R.set i ((R.getD i []).set k c)) i (k + 1)) ++ q, ?_, by rw [← List.append_assoc]; exact q2⟩
     rw [HPL.out]
     obtain ⟨t, ht⟩ := q1
     refine ⟨t ++ ((s.drop (j + 1)).flatMap fun c => outL D (R.set i ((R.getD i []).set k c)) i (k + 1)), ?_⟩
     conv => rhs; rw [← List.take_append_drop (j + 1) s, List.flatMap_append, HST.out, ← ht]
     simp only [List.append_assoc]
  · obtain rfl : j = sn := by omega
    go_wp2
    go_ret
    refine .inl ⟨rfl, ?_, R', by rw [HN.out]; exact HH.out.1, HH.out.2.1, HH.out.2.2.1, HH.out.2.2.2.1⟩
    have h5 := HH.out.2.2.2.2
    rw [List.take_of_length_le (by rw [HSN.out]; exact Nat.le_refl _), ← HPL.out] at h5
    exact h5
theorem p_choose (hF : ChF F D gR l rB yB cB oB gr go) (hn : D.length = 2 ∨ D.length = 3) (hlo : lo ≤ hi) (hb : ∀ i, i < D.length → (D.getD i []).length ≤ 44) (hsl : ∀ i k, ((D.getD i []).getD k []).length ≤ 256)
 (hY : ∀ pre x g X, J pre X → hi ≤ g → pre ++ [x] <+: xs → RowV X g (strV x) → YieldAt Fence.wide 5 Tryz.prog l #[.slice (some ⟨g, 0, none⟩) x.length x.length] X fun e Y => Keeps lo hi X Y ∧ ((e = .returned (.bool true) ∧ J (pre ++ [x]) Y) ∨ (e = .returned (.bool false) ∧ Jx (pre ++ [x]) Y)))
 (hJ : ∀ s X Y, J s X → Turns lo hi X Y → J s Y) : ∀ (m i k : Nat) (pre : List (List (List UInt8))) (R : List (List UInt8)) (X : World), (D.length - i) * 45 + (44 - k) ≤ m → i ≤ D.length → (i < D.length → k ≤ (D.getD i []).length) → ItS lo hi F D.length gR X R → Same2 D R → J pre X → pre ++ outL D R i k <+: xs →
  Calls Tryz.prog 123 #[.int .i64 (i : Int), .int .i64 (k : Int), .pointer (some ⟨rB, 0, none⟩), .pointer (some ⟨yB, 0, none⟩), .pointer (some ⟨cB, 0, none⟩), .pointer (some ⟨oB, 0, none⟩)] X (PostC lo hi F D gR J Jx pre R i k) := by
 intro m
 induction m with
 | zero =>
  intro i k pre R X hm hi1 hk hI hl h0 hx
  obtain rfl : i = D.length := by omega
  exact choose_end hF hn hY hJ hlo k pre R X hI hl h0 (by rwa [show outL D R D.length k = [R] from by unfold outL; rw [if_neg (Nat.lt_irrefl _)]] at hx)
 | succ m ihm =>
  intro i k pre R X hm hi1 hk hI hl h0 hx
  rcases Nat.lt_or_ge i D.length with h1 | h1
  · have hbi := hb i h1
    have hki := hk h1
    have h3 : D.length ≤ 3 := by rcases hn with h | h <;> omega
    rcases Nat.lt_or_ge k (D.getD i []).length with h2 | h2
    · refine choose_place hF hJ hlo i k h1 h3 h2 hbi pre R X hI hl h0 hx (hsl i k) fun pre R X hI hl h0 hx => ?_
      have := ihm i (k + 1) pre R X (by omega) hi1 (fun _ => h2) hI hl h0 hx
      simpa using this
    · obtain rfl : k = (D.getD i []).length := by omega
      refine choose_row hF i h1 h3 hbi pre R X hI ?_
      have ho := out_row (D := D) (R := R) (k := (D.getD i []).length) h1 (Nat.le_refl _) hI.len (Nat.le_of_eq (hl i h1))
      have := ihm (i + 1) 0 pre R X (by omega) h1 (fun _ => Nat.zero_le _) hI hl h0 (by rw [← ho]; exact hx)
      refine (show Calls _ _ #[.int .i64 ((i : Int) + 1), .int .i64 0, _, _, _, _] X _ from by simpa using this).mono fun e Y h => PostC.row h1 ho hI.len h
  · obtain rfl : i = D.length := by omega
    exact choose_end hF hn hY hJ hlo k pre R X hI hl h0 (by rwa [show outL D R D.length k = [R] from by unfold outL; rw [if_neg (Nat.lt_irrefl _)]] at hx)
end
end Go.Proofs.YtibahbkjjfmbgaaGreatDoor
namespace Go.Proofs.YtibahbkjjfmbgaaGreatDoor
open Go.RowKit
set_option linter.unusedVariables false
def occV (p : Nat → Bool) : List Value := (List.range 256).map fun i => Value.bool (p i)
theorem occV_len (p : Nat → Bool) : (occV p).length = 256 := by simp [occV]
theorem occV_get (p : Nat → Bool) {i : Nat} (h : i < 256) : (occV p)[i]? = some (.bool (p i)) := by simp [occV, h]
theorem occV_set {p q : Nat → Bool} {i : Nat} (h : i < 256) (hq : q i = true) (hne : ∀ j, j ≠ i → q j = p j) : (occV p).set i (.bool true) = occV q := by
 apply List.ext_getElem?
 intro j
 by_cases e : j = i
 · subst e
   rw [List.getElem?_set_self (by rw [occV_len]; exact h), occV_get q h, hq]
 · rw [List.getElem?_set_ne (Ne.symm e)]
   unfold occV
   rw [List.getElem?_map, List.getElem?_map]
   by_cases hj : j < 256
   · rw [List.getElem?_range hj]; simp [hne j e]
   · rw [List.getElem?_eq_none (by simpa using hj)]; rfl
theorem info_occ : (Tryz.prog.info? 128).map (·.zero) = some (some (.agg (occV fun _ => false).toArray)) := by kernel_rfl
theorem size_bo : (Tryz.prog.info? 4).map (·.size) = some 1 := by kernel_rfl
def sortTo (x : List UInt8) (n : Nat) : List UInt8 := ((List.range n).filter fun c => x.any fun b => b.toNat == c).map UInt8.ofNat
theorem sortTo_succ (x : List UInt8) (n : Nat) : sortTo x (n + 1) = sortTo x n ++ (if (x.any fun b => b.toNat == n) = true then [UInt8.ofNat n] else []) := by
 unfold sortTo
 rw [List.range_succ, List.filter_append, List.map_append]
 congr 1
 by_cases h : (x.any fun b => b.toNat == n) = true
 · rw [if_pos h]; simp [h]
 · rw [if_neg h]; simp [h]
theorem sortTo_all (x : List UInt8) : sortTo x 256 = sortU x := rfl
theorem sortTo_len (x : List UInt8) (n : Nat) : (sortTo x n).length ≤ n := by
 unfold sortTo
 rw [List.length_map]
 exact Nat.le_trans (List.length_filter_le _ _) (by simp)
theorem sortU_len (x : List UInt8) : (sortU x).length ≤ 256 := by rw [← sortTo_all]; exact sortTo_len x 256
theorem str_byte (x : List UInt8) (k : Nat) (hk : k < x.length) (w : World) : (Instr.index 9 (.string (S x)) (.int .i64 (k : Int))).run Tryz.prog w = .ok (.int .u8 ((x.getD k 0).toNat : Int)) w := by
 have hl : (S x).size = x.length := S_size x
 rw [run_index_string w 9 (S x) .i64 _ Tryz.underlying9, dif_pos (by omega)]
 simp only [Int.toNat_natCast]
 congr 2
 simp [S, ByteArray.getElem_eq_getElem_data, hk]
theorem any_snoc (x : List UInt8) (j c : Nat) (hj : j < x.length) : ((x.take (j + 1)).any fun b => b.toNat == c) = (((x.take j).any fun b => b.toNat == c) || (x.getD j 0).toNat == c) := by
 rw [List.take_add_one, List.getElem?_eq_getElem hj, List.any_append]
 simp [List.getD, hj]
set_option maxHeartbeats 3200000 in
set_option maxRecDepth 20000 in
theorem p_distinct (x : List UInt8) (hx0 : x ≠ []) (hxl : x.length ≤ 4611686018427387904) (w : World) :
 Calls Tryz.prog 65 #[.string (S x)] w fun e w' => ∃ g c ex, e = .returned (.slice (some ⟨g, 0, none⟩) (sortU x).length c) ∧ w.heap.size ≤ g ∧ RowV w' g (Us (sortU x) ++ ex) ∧ Below w.heap.size w w' := by
 obtain ⟨i0, hi, hz0, hz1, hz2⟩ := info_parts info_u8b
 obtain ⟨s, hs⟩ : ∃ s, S x = s := ⟨_, rfl⟩
 obtain ⟨n, hn⟩ : ∃ n, x.length = n := ⟨_, rfl⟩
 have hsz : s.size = n := by rw [← hs, S_size, hn]
 have HN := Lib.hid hn
 have HIX : Hid (∀ k, k < n → ∀ w, (Instr.index 9 (.string s) (.int .i64 (k : Int))).run Tryz.prog w = .ok (.int .u8 ((x.getD k 0).toNat : Int)) w) := Lib.hid (by rw [← hs, ← hn]; exact fun k hk w => str_byte x k hk w)
 have HX0 := Lib.hid hx0
 have HO := Lib.hid (Own.start w)
 rw [hn] at hxl
 rw [hs]
 clear hs hn hx0
 go_enter Tryz.func65, Tryz.ntmps65
 go_wp2_with (first
  | ((with_reducible refine at_alloc_ (d := 3) ?_); refine wpList_alloc_v (op := ⟨some 3, _, _, _, _, _⟩) rfl 128 rfl (occV fun _ => false) info_occ ?_; intro g3 v3a hf hr; replace HO := Lib.hid (HO.out.new hf hr); clear hf hr))
 go_loopw [9] (fun i wq => ∃ (j : Nat), j ≤ n ∧ i = .int .i64 (j : Int) ∧ Hid (Own w wq [(g3, occV fun c => (x.take j).any fun b => b.toNat == c)])) (fun i _ => n - (intOf i).toNat)
 case atStart => exact ⟨0, by omega, rfl, Lib.hid HO.out⟩
 case round =>
  clear HO
  obtain ⟨j, hj, rfl, HO⟩ := hrel
  by_cases hlt : j < n
  ·
   have hj0 : (j : Int) < (n : Int) := by omega
   have hwj : wrap64 ((j : Int) + 1) = (j : Int) + 1 := by simp [wrap64]; omega
   obtain ⟨b, hb⟩ : ∃ b, (x.getD j 0).toNat = b := ⟨_, rfl⟩
   have hb2 : b < 256 := by rw [← hb]; exact UInt8.toNat_lt _
   have hb3 : (b : Int) < 256 := by omega
   have hix := HIX.out j hlt
   rw [hb] at hix
   have HB := Lib.hid hb
   clear hb
   go_wp2_with (first
    | ((with_reducible refine at_store_ (i := 15) ?_); refine wpList_store_at rfl _ (.tmp 15) _ rfl g3 b (occV fun c => (x.take j).any fun b => b.toNat == c) (.bool true) rfl rfl (HO.out.row (i := 0) rfl) (by rw [occV_len]; exact hb2) rfl rfl size_bo ?_; intro w7 hw hr; replace HO := Lib.hid (HO.out.set (i := 0) rfl hw hr); clear hw hr))
   go_roundw
   case rel =>
    refine ⟨j + 1, by omega, by go_num, Lib.hid ?_⟩
    have h1 := HO.out
    have hjx : j < x.length := by rw [HN.out]; exact hlt
    rw [occV_set (q := fun c => (x.take (j + 1)).any fun b => b.toNat == c) hb2 (by rw [any_snoc x j b hjx, HB.out]; simp) (fun i hne => by rw [any_snoc x j i hjx, HB.out]; simp [Ne.symm hne])] at h1
    exact h1
   case measure => simp [intOf]; omega
  ·
   obtain rfl : j = n := by omega
   have HOC : Hid (Own w wr [(g3, occV fun c => x.any fun b => b.toNat == c)]) := Lib.hid (by have h1 := HO.out; rwa [List.take_of_length_le (by rw [HN.out]; exact Nat.le_refl _)] at h1)
   clear HO HIX
   go_wp2
   obtain ⟨B, hB⟩ : ∃ B, wr.heap.size = B := ⟨_, rfl⟩
   have HG3 := Lib.hid (show g3 < B from by rw [← hB]; exact (HOC.out.row (i := 0) rfl).lt)
   go_loopw [17, 5] (fun i v wq => ∃ (c : Nat), c ≤ 256 ∧ i = .int .i64 (c : Int) ∧ (∃ A cp, v = .slice A (sortTo x c).length cp) ∧ Hid (Below w.heap.size w wq ∧ RowV wq g3 (occV fun c => x.any fun b => b.toNat == c) ∧ wq.ownsRow B 5 1 v (sortTo x c).length (Us (sortTo x c)) ∧ B ≤ wq.heap.size)) (fun i _ _ => 256 - (intOf i).toNat)
   case atStart => exact ⟨0, by omega, rfl, ⟨_, _, rfl⟩, Lib.hid ⟨HOC.out.bl, HOC.out.row (i := 0) rfl, World.ownsRow_nil wr B _ 1, by rw [hB]; exact Nat.le_refl _⟩⟩
   case round =>
    obtain ⟨c, hc, rfl, ⟨A, cp, rfl⟩, HH⟩ := hrel
    obtain ⟨ln, hln⟩ : ∃ ln, (sortTo x c).length = ln := ⟨_, rfl⟩
    have hl2 : ln ≤ 256 := by rw [← hln]; exact Nat.le_trans (sortTo_len x c) hc
    rw [hln] at HH ⊢
    by_cases hlt : c < 256
    ·
     have hc0 : (c : Int) < 256 := by omega
     have hwc : wrap64 ((c : Int) + 1) = (c : Int) + 1 := by simp [wrap64]; omega
     have hcu : IntKind.u8.wrap (c : Int) = (c : Int) := by rw [IntKind.wrap_u8]; omega
     obtain ⟨oc, hoc⟩ : ∃ oc, (x.any fun b => b.toNat == c) = oc := ⟨_, rfl⟩
     have HL := Lib.hid (show wr.cell? ⟨g3, c, none⟩ = some (.bool oc) from (HH.out.2.1.cell c).trans (by rw [occV_get _ hlt, hoc]))
     have HS := Lib.hid (sortTo_succ x c)
     rw [hoc] at HS
     have HLN := Lib.hid hln
     clear hln hoc
     rcases oc with _ | _
     · go_wp2_with (first
        | ((with_reducible refine at_load_ (d := 22) ?_); refine wpList_load_c rfl _ _ rfl g3 c rfl _ HL.out (fun w => by kernel_rfl) ?_))
       go_roundw
       case rel =>
        have e : sortTo x (c + 1) = sortTo x c := by rw [HS.out]; simp
        refine ⟨c + 1, by omega, by go_num, ⟨A, cp, by rw [e, HLN.out]⟩, Lib.hid ?_⟩
        rw [e, HLN.out]
        exact HH.out
       case measure => simp [intOf]; omega
     ·
      go_wp2_with (first
       | ((with_reducible refine at_load_ (d := 22) ?_); refine wpList_load_c rfl _ _ rfl g3 c rfl _ HL.out (fun w => by kernel_rfl) ?_)
       | (at_builtin; (refine wpList_append_own _ rfl (.tmp 23) (.tmp 26) 59 rfl B 5 i0 (.int .u8 0) 1 1 Tryz.underlying59 hi hz0 hz1 hz2 rfl (by decide) (.slice A ln cp) ln _ rfl (HH.out.2.2.1.alloc _) ⟨_, 0, none⟩ 1 1 [_] rfl rfl (news_of_one _ _ _) (one_cell1 _) (by unfold maxLen; omega) (by omega) (by have := HH.out.2.2.2; simp; omega) ?_; intro v3 w3 ho3 hg3 _; obtain ⟨A3, c3, rfl⟩ := own_len ho3; have HR := Lib.hid (show _ ∧ _ from ⟨ho3, hg3⟩); clear ho3 hg3)))
      go_roundw
      case rel =>
       have e : sortTo x (c + 1) = sortTo x c ++ [UInt8.ofNat c] := by rw [HS.out]; simp
       have e2 : (sortTo x (c + 1)).length = ln + 1 := by rw [e, List.length_append, HLN.out]; rfl
       have e3 : U (UInt8.ofNat c) = .int .u8 (c : Int) := by simp [U]; omega
       refine ⟨c + 1, by omega, by go_num, ⟨A3, c3, by rw [e2]⟩, Lib.hid ?_⟩
       rw [e2, e, Us_append]
       obtain ⟨h1, h2⟩ := HR.out
       have hne : ∀ g, (Value.slice A ln cp).ownBlock = some g → B ≤ g := fun g e => (HH.out.2.2.1.lt g e).1
       refine ⟨(HH.out.1.alloc HH.out.1.size _).grown h2 (by have := HH.out.1.size; simp; omega) (fun k e => Nat.le_trans (by have := HOC.out.bl.size; omega) (hne k e)), ?_, ?_, Nat.le_trans (by have := HH.out.2.2.2; simp; omega) h2.size⟩
       · exact (HH.out.2.1.on ((Below.refl _ _).alloc (Nat.le_refl _) _)).same (h2.block g3 (by have := HH.out.2.1.lt; simp; omega) (fun e => by have := hne g3 e.symm; have := HG3.out; omega))
       · rw [show Us [UInt8.ofNat c] = [.int .u8 (c : Int)] from by simp [Us, e3]]
         exact h1
      case measure => simp [intOf]; omega
    ·
     obtain rfl : c = 256 := by omega
     have HLN := Lib.hid hln
     clear hln
     go_wp2
     go_ret
     have hown := HH.out.2.2.1
     have hl1 : ln ≠ 0 := fun h0 => HX0.out (sortU_nil.1 (List.eq_nil_of_length_eq_zero (by rw [← sortTo_all, HLN.out, h0])))
     rcases hown.2 with ⟨e, h0⟩ | ⟨g, cap, cur, e, hg, hh, _, _, _, ht⟩
     · exact absurd h0 hl1
     · injection e with e1 _ e2
       subst e1 e2
       refine ⟨g, cp, cur.toList.drop ln, by rw [← sortTo_all, HLN.out]; rfl, Nat.le_trans (by have := HOC.out.bl.size; omega) hg, ⟨5, ?_⟩, HH.out.1⟩
       rw [hh, ← sortTo_all]
       congr 2
       apply Array.ext'
       rw [← ht]
       simp
end Go.Proofs.YtibahbkjjfmbgaaGreatDoor
