/-
  What is proved here: the program's iterator over the choices of a complete reading: it hands over all choices, in order, each in a block of its own, as long as more is wanted.
-/
import Derived.Test.YtibahbkjjfmbgaaGreatDoorUX3
import Derived.Test.YtibahbkjjfmbgaaGreatDoorUX4
import Derived.Deep.RegionHeld
import Derived.Test.YtibahbkjjfmbgaaGreatDoorUY9
import Derived.Test.YtibahbkjjfmbgaaGreatDoorUZym
namespace Go.Proofs.YtibahbkjjfmbgaaGreatDoor
open Go.RowKit Go.Shelf
set_option linter.unusedVariables false
theorem p_choices (A : Option Addr) (n c : Nat) (w : World) : Calls Tryz.prog 84 #[.slice A n c] w fun e w' => e = .returned (.func (.func 122) #[] #[.pointer (some ⟨w.heap.size, 0, none⟩)]) ∧ w' = w.alloc (.cells #[.slice A n c] 27) := by
 go_enter Tryz.func84, Tryz.ntmps84
 go_wp2
 go_ret
 exact ⟨rfl, rfl⟩
def nilS : Value := .slice none 0 0
theorem info_b3 : (Tryz.prog.info? 134).map (fun i => (i.zero, i.size, i.bytes)) = some (some nilS, 1, 24) := by kernel_rfl
theorem info_b2 : (Tryz.prog.info? 59).map (fun i => (i.zero, i.size, i.bytes)) = some (some nilS, 1, 24) := by kernel_rfl
theorem info_b1 : (Tryz.prog.info? 5).map (fun i => (i.zero, i.size, i.bytes)) = some (some (.int .u8 0), 1, 1) := by kernel_rfl
theorem zero_b4 : (Tryz.prog.info? 133).map (·.zero) = some (some nilS) := by kernel_rfl
theorem zero_b3 : (Tryz.prog.info? 134).map (·.zero) = some (some nilS) := by kernel_rfl
theorem size_b4 : (Tryz.prog.info? 133).map (·.size) = some 1 := by kernel_rfl
theorem size_b3 : (Tryz.prog.info? 134).map (·.size) = some 1 := by kernel_rfl
theorem mk_opts (n : Nat) (h : n ≤ 1000) (w : World) : (Instr.makeSlice 133 (.int .i64 (n : Int)) (.int .i64 (n : Int))).run Tryz.prog w = .ok (.slice (some ⟨w.heap.size, 0, none⟩) n n) (w.alloc (.cells (List.replicate n nilS).toArray 134)) := by
 rw [← made_list]
 exact run_make_row' 133 134 nilS 24 Tryz.underlying133 info_b3 rfl .i64 .i64 n (by omega) (by omega) w
theorem mk_opt (n : Nat) (h : n ≤ 1000) (w : World) : (Instr.makeSlice 134 (.int .i64 (n : Int)) (.int .i64 (n : Int))).run Tryz.prog w = .ok (.slice (some ⟨w.heap.size, 0, none⟩) n n) (w.alloc (.cells (List.replicate n nilS).toArray 59)) := by
 rw [← made_list]
 exact run_make_row' 134 59 nilS 24 Tryz.underlying134 info_b2 rfl .i64 .i64 n (by omega) (by omega) w
theorem mk_row8 (n : Nat) (h : n ≤ 1000) (w : World) : (Instr.makeSlice 59 (.int .i64 (n : Int)) (.int .i64 (n : Int))).run Tryz.prog w = .ok (.slice (some ⟨w.heap.size, 0, none⟩) n n) (w.alloc (.cells (List.replicate n (Value.int .u8 0)).toArray 5)) := by
 rw [← made_list]
 exact run_make_row' 59 5 (.int .u8 0) 1 Tryz.underlying59 info_b1 rfl .i64 .i64 n (by omega) (by omega) w
def OptTo (T : List (Nat × List Value)) (vs : List Value) (D : List (List (List UInt8))) (j : Nat) : Prop :=
 ∀ (i : Nat) (r : List (List UInt8)), i < j → D[i]? = some r → ∃ (gO : Nat) (us : List Value), vs[i]? = some (Value.slice (some ⟨gO, 0, none⟩) r.length r.length) ∧ (gO, us) ∈ T ∧ us.length = r.length ∧
  ∀ (k : Nat) (s : List UInt8), r[k]? = some s → ∃ (g c : Nat) (ex : List Value), us[k]? = some (Value.slice (some ⟨g, 0, none⟩) s.length c) ∧ (g, Us s ++ ex) ∈ T
def rowTo (gR : Nat → Nat) (D : List (List (List UInt8))) (j : Nat) : List Value := (List.range D.length).map fun i => if i < j then .slice (some ⟨gR i, 0, none⟩) (D.getD i []).length (D.getD i []).length else nilS
def zerTo (gR : Nat → Nat) (D : List (List (List UInt8))) (j : Nat) : List (Nat × List Value) := (List.range j).map fun i => (gR i, Us (List.replicate (D.getD i []).length 0))
theorem rowTo_len (gR : Nat → Nat) (D : List (List (List UInt8))) (j : Nat) : (rowTo gR D j).length = D.length := by simp [rowTo]
theorem rowTo_zero (gR : Nat → Nat) (D : List (List (List UInt8))) : rowTo gR D 0 = List.replicate D.length nilS := by
 unfold rowTo
 apply List.ext_getElem?
 intro i
 rw [List.getElem?_map, List.getElem?_replicate]
 by_cases h : i < D.length
 · rw [List.getElem?_range h, if_pos h]; simp
 · rw [List.getElem?_eq_none (by simpa using h), if_neg h]; rfl
theorem rowTo_all (gR : Nat → Nat) (D : List (List (List UInt8))) : rowTo gR D D.length = rwV gR D := by
 unfold rowTo rwV
 refine List.map_congr_left fun i hi => ?_
 rw [if_pos (List.mem_range.1 hi)]
theorem rowTo_set (gR : Nat → Nat) (D : List (List (List UInt8))) {j g : Nat} (hj : j < D.length) : (rowTo gR D j).set j (.slice (some ⟨g, 0, none⟩) (D.getD j []).length (D.getD j []).length) = rowTo (fun i => if i = j then g else gR i) D (j + 1) := by
 apply List.ext_getElem?
 intro i
 by_cases e : i = j
 · subst e
   rw [List.getElem?_set_self (by rw [rowTo_len]; exact hj)]
   unfold rowTo
   rw [List.getElem?_map, List.getElem?_range hj]
   simp
 · rw [List.getElem?_set_ne (Ne.symm e)]
   unfold rowTo
   rw [List.getElem?_map, List.getElem?_map]
   by_cases hi : i < D.length
   · rw [List.getElem?_range hi]
     simp only [Option.map_some, if_neg e]
     by_cases h3 : i < j
     · rw [if_pos h3, if_pos (by omega)]
     · rw [if_neg h3, if_neg (by omega)]
   · rw [List.getElem?_eq_none (by simpa using hi)]; rfl
theorem zerTo_succ (gR : Nat → Nat) (D : List (List (List UInt8))) {j g : Nat} : zerTo gR D j ++ [(g, Us (List.replicate (D.getD j []).length 0))] = zerTo (fun i => if i = j then g else gR i) D (j + 1) := by
 unfold zerTo
 rw [List.range_succ, List.map_append]
 congr 1
 · refine List.map_congr_left fun i hi => ?_
   have := List.mem_range.1 hi
   simp [show i ≠ j by omega]
 · simp
theorem OptTo.more {T T2 : List (Nat × List Value)} {vs : List Value} {D : List (List (List UInt8))} {j : Nat} (h : OptTo T vs D j) : OptTo (T ++ T2) vs D j := fun i r hi hr => by
 obtain ⟨gO, us, h1, h2, h3, h4⟩ := h i r hi hr
 refine ⟨gO, us, h1, List.mem_append_left _ h2, h3, fun k s hs => ?_⟩
 obtain ⟨g, c, ex, h5, h6⟩ := h4 k s hs
 exact ⟨g, c, ex, h5, List.mem_append_left _ h6⟩
theorem OptTo.set {T : List (Nat × List Value)} {vs : List Value} {D : List (List (List UInt8))} {j : Nat} (h : OptTo T vs D j) (u : Value) : OptTo T (vs.set j u) D j := fun i r hi hr => by
 obtain ⟨gO, us, h1, h2⟩ := h i r hi hr
 exact ⟨gO, us, by rw [List.getElem?_set_ne (by omega)]; exact h1, h2⟩
theorem OptTo.row {T DS : List (Nat × List Value)} {vs us : List Value} {D : List (List (List UInt8))} {j gO : Nat} {r : List (List UInt8)} (h : OptTo T vs D j) (hr : D[j]? = some r) (hv : vs[j]? = some (Value.slice (some ⟨gO, 0, none⟩) r.length r.length)) (hl : us.length = r.length)
 (hd : ∀ (k : Nat) (s : List UInt8), r[k]? = some s → ∃ (g c : Nat) (ex : List Value), us[k]? = some (Value.slice (some ⟨g, 0, none⟩) s.length c) ∧ (g, Us s ++ ex) ∈ DS) : OptTo (T ++ [(gO, us)] ++ DS) vs D (j + 1) := fun i r' hi hr' => by
 by_cases e : i = j
 · subst e
   rw [hr] at hr'
   injection hr' with hr'
   subst hr'
   refine ⟨gO, us, hv, by simp, hl, fun k s hs => ?_⟩
   obtain ⟨g, c, ex, h5, h6⟩ := hd k s hs
   exact ⟨g, c, ex, h5, List.mem_append_right _ h6⟩
 · obtain ⟨gO', us', h1, h2, h3, h4⟩ := h i r' (by omega) hr'
   refine ⟨gO', us', h1, by simp [h2], h3, fun k s hs => ?_⟩
   obtain ⟨g, c, ex, h5, h6⟩ := h4 k s hs
   exact ⟨g, c, ex, h5, by simp [h6]⟩
section
variable {P : Program} {a : Act} {w : World} {K : Act → World → Prop} {Q : Exit → Act → World → Prop} {o : Oper}
theorem o_mkn (ty : TypeId) (x y : Operand) (ho : o.op = .makeSlice ty x y) {vx vy : Value} (hx : a.eval x = vx) (hy : a.eval y = vy) (vs : List Value) (n : Nat) (e : TypeId) (hm : (Instr.makeSlice ty vx vy).run P w = .ok (.slice (some ⟨w.heap.size, 0, none⟩) n n) (w.alloc (.cells vs.toArray e)))
 (hK : ∀ g w', Fresh w w' g → RowV w' g vs → K (a.put o.dst (.slice (some ⟨g, 0, none⟩) n n)) w') : o.wp P a w K Q := by
 unfold Oper.wp execOp
 simp only [ho, hx, hy, Sem.run_bind, hm, Result.andThen_ok]
 exact hK _ _ ⟨rfl, _, rfl⟩ (RowV.new (by simp))
theorem o_cfn {f : FuncId} {args : Array Value} {R : Ending → World → Prop} (hrun : (execOp a.eval o).run P w = .ok (.enter f args) w) (hc : Calls P f args w R) (hK : ∀ e w', R e w' → ∃ v, e = .returned v ∧ K (a.put o.dst v) w') : o.wp P a w K Q := by
 unfold Oper.wp
 rw [hrun]
 refine Calls.mono hc fun e w' he => ?_
 obtain ⟨v, rfl, hk⟩ := hK e w' he
 exact hk
end
theorem ifP {c : Prop} {_ : Decidable c} {p q : Prop} (h : c) (hp : p) : if c then p else q := by rw [if_pos h]; exact hp
theorem get5 (x0 x1 x2 x3 x4 y : Nat × List Value) (T DS Z : List (Nat × List Value)) : ([x0, x1, x2, x3, x4] ++ (T ++ [y] ++ DS) ++ Z)[5 + T.length]? = some y := by
 have e : [x0, x1, x2, x3, x4] ++ (T ++ [y] ++ DS) ++ Z = ([x0, x1, x2, x3, x4] ++ T) ++ y :: (DS ++ Z) := by simp
 rw [e, List.getElem?_append_right (by simp; omega)]
 have : 5 + T.length - ([x0, x1, x2, x3, x4] ++ T).length = 0 := by simp; omega
 rw [this]; rfl
theorem set5 (x0 x1 x2 x3 x4 y z : Nat × List Value) (T DS Z : List (Nat × List Value)) : ([x0, x1, x2, x3, x4] ++ (T ++ [y] ++ DS) ++ Z).set (5 + T.length) z = [x0, x1, x2, x3, x4] ++ (T ++ [z] ++ DS) ++ Z := by
 have e : ∀ y, [x0, x1, x2, x3, x4] ++ (T ++ [y] ++ DS) ++ Z = ([x0, x1, x2, x3, x4] ++ T) ++ y :: (DS ++ Z) := fun y => by simp
 rw [e, e, List.set_append_right _ _ (by simp; omega)]
 have : 5 + T.length - ([x0, x1, x2, x3, x4] ++ T).length = 0 := by simp; omega
 rw [this]; rfl
theorem zero_f2 : (Tryz.prog.info? 121).map (·.zero) = some (some .nilFunc) := by kernel_rfl
theorem size_f2 : (Tryz.prog.info? 121).map (·.size) = some 1 := by kernel_rfl
def cloV (g2 g3 g4 g7 : Nat) : Value := .func (.func 123) #[] #[.pointer (some ⟨g4, 0, none⟩), .pointer (some ⟨g2, 0, none⟩), .pointer (some ⟨g7, 0, none⟩), .pointer (some ⟨g3, 0, none⟩)]
def chB (g2 g3 g4 g7 go gr n l : Nat) (vs : List Value) (gR : Nat → Nat) (D : List (List (List UInt8))) (T : List (Nat × List Value)) (u : Value) : List (Nat × List Value) := [(g2, [Value.func (.yield l) #[] #[]]), (go, vs), (g3, [Value.slice (some ⟨go, 0, none⟩) n n]), (gr, rwV gR D), (g4, [Value.slice (some ⟨gr, 0, none⟩) n n])] ++ T ++ [(g7, [u])]
theorem own_set7 {W w w' : World} {g2 g3 g4 g7 go gr n l : Nat} {vs : List Value} {gR : Nat → Nat} {D : List (List (List UInt8))} {T Z : List (Nat × List Value)} {u u2 : Value} (h : Own W w (chB g2 g3 g4 g7 go gr n l vs gR D T u ++ Z)) (hw : Wr w w' g7) (hr : RowV w' g7 [u2]) : Own W w' (chB g2 g3 g4 g7 go gr n l vs gR D T u2 ++ Z) := by
 have h1 := h.set (i := 5 + T.length) (us := [u2]) (by have h := get5 (g2, [Value.func (.yield l) #[] #[]]) (go, vs) (g3, [Value.slice (some ⟨go, 0, none⟩) n n]) (gr, rwV gR D) (g4, [Value.slice (some ⟨gr, 0, none⟩) n n]) (g7, [u]) T [] Z; unfold chB; simp only [List.append_assoc, List.append_nil] at h ⊢; exact h) hw hr
 have h2 := set5 (g2, [Value.func (.yield l) #[] #[]]) (go, vs) (g3, [Value.slice (some ⟨go, 0, none⟩) n n]) (gr, rwV gR D) (g4, [Value.slice (some ⟨gr, 0, none⟩) n n]) (g7, [u]) (g7, [u2]) T [] Z
 unfold chB at h1 ⊢
 simp only [List.append_assoc, List.append_nil] at h1 h2 ⊢
 rwa [h2] at h1
theorem own_get7 {W w : World} {g2 g3 g4 g7 go gr n l : Nat} {vs : List Value} {gR : Nat → Nat} {D : List (List (List UInt8))} {T Z : List (Nat × List Value)} {u : Value} (h : Own W w (chB g2 g3 g4 g7 go gr n l vs gR D T u ++ Z)) : w.cell? ⟨g7, 0, none⟩ = some u := by
 have h1 := (h.mem (g := g7) (vs := [u]) (by unfold chB; simp)).cell 0
 simpa using h1
theorem zer_getD (D : List (List (List UInt8))) (i : Nat) (hi : i < D.length) : (D.map fun r => List.replicate r.length (0 : UInt8)).getD i [] = List.replicate (D.getD i []).length 0 := by simp [List.getD, hi]
theorem ch_start {L D : List (List (List UInt8))} (hcp : cmplL L = true) (hD : dst L = D) {g2 g3 g4 g7 go gr n l : Nat} (hn : D.length = n) {vs : List Value} {gR : Nat → Nat} {T : List (Nat × List Value)} {W w : World} (hvs : vs.length = n) (hopt : OptTo T vs D n)
 (h : Own W w (chB g2 g3 g4 g7 go gr n l vs gR D T (cloV g2 g3 g4 g7) ++ zerTo gR D D.length)) {J Jx : Nat → List (List (List UInt8)) → World → Prop}
 (hJ : ∀ hi s X Y, J hi s X → Turns W.heap.size hi X Y → J hi s Y)
 (hY : ∀ hi pre x g X, J hi pre X → W.heap.size ≤ hi → hi ≤ g → pre ++ [x] <+: chsL L → RowV X g (strV x) →
  YieldAt Fence.wide 5 Tryz.prog l #[.slice (some ⟨g, 0, none⟩) x.length x.length] X fun e Y => Keeps W.heap.size hi X Y ∧ ((e = .returned (.bool true) ∧ J hi (pre ++ [x]) Y) ∨ (e = .returned (.bool false) ∧ Jx hi (pre ++ [x]) Y)))
 (h0 : ∀ hi X, Below W.heap.size W X → W.heap.size ≤ hi → hi ≤ X.heap.size → J hi [] X) :
 Calls Tryz.prog 123 #[.int .i64 0, .int .i64 0, .pointer (some ⟨g4, 0, none⟩), .pointer (some ⟨g2, 0, none⟩), .pointer (some ⟨g7, 0, none⟩), .pointer (some ⟨g3, 0, none⟩)] w
  (PostC W.heap.size w.heap.size (chB g2 g3 g4 g7 go gr n l vs gR D T (cloV g2 g3 g4 g7)) D gR (J w.heap.size) (Jx w.heap.size) [] (D.map fun r => List.replicate r.length 0) 0 0) := by
 have hlen := comp_len hcp
 have hDl : D.length = 2 ∨ D.length = 3 := by rw [← hD, dst_len]; exact hlen
 have hle := h.bl.size
 have hz : zerTo gR D D.length = (List.range D.length).map fun i => (gR i, Us ((D.map fun r => List.replicate r.length (0 : UInt8)).getD i [])) := by
  unfold zerTo
  refine List.map_congr_left fun i hi => ?_
  rw [zer_getD D i (List.mem_range.1 hi)]
 have hits := Own.its (n := D.length) (R := D.map fun r => List.replicate r.length (0 : UInt8)) (by simp) (by rw [← hz]; exact h) rfl rfl
 have hF : ChF (chB g2 g3 g4 g7 go gr n l vs gR D T (cloV g2 g3 g4 g7)) D gR l g4 g2 g7 g3 gr go := by
  rw [← hn] at hvs hopt ⊢
  refine ⟨by unfold chB; simp, by unfold chB; simp, by unfold chB cloV; simp, by unfold chB; simp, by unfold chB; simp, vs, by unfold chB; simp, hvs, fun i r hr => ?_⟩
  obtain ⟨gO, us, h1, h2, h3, h4⟩ := hopt i r (List.getElem?_eq_some_iff.1 hr).1 hr
  refine ⟨gO, us, h1, by unfold chB; simp [h2], h3, fun k s hs => ?_⟩
  obtain ⟨g, c, ex, h5, h6⟩ := h4 k s hs
  exact ⟨g, c, ex, h5, by unfold chB; simp [h6]⟩
 have hb : ∀ i, i < D.length → (D.getD i []).length ≤ 44 := fun i hi => by
  rw [← hD] at hi ⊢
  rw [dst_len] at hi
  rw [dst_row_len L hi]
  exact (comp_row hcp hi).1
 have hsl : ∀ i k, ((D.getD i []).getD k []).length ≤ 256 := fun i k => by
  rcases Nat.lt_or_ge i D.length with hi | hi
  · rcases Nat.lt_or_ge k (D.getD i []).length with hk | hk
    · rw [← hD] at hi hk ⊢
      rw [dst_len] at hi
      rw [dst_row_len L hi] at hk
      rw [dst_get2 L hi hk]
      exact sortU_len _
    · rw [List.getD_eq_getElem?_getD, List.getElem?_eq_none hk]; simp
  · rw [List.getD_eq_getElem?_getD (l := D), List.getElem?_eq_none hi]; simp
 have hst := out_start (D := D) (R := D.map fun r => List.replicate r.length (0 : UInt8)) (by omega)
 have hc := p_choose (xs := chsL L) hF hDl hle hb hsl (fun pre x g X hj hg hp hr => hY w.heap.size pre x g X hj hle hg hp hr) (fun s X Y => hJ w.heap.size s X Y) ((D.length - 0) * 45 + (44 - 0)) 0 0 [] (D.map fun r => List.replicate r.length 0) w (Nat.le_refl _) (Nat.zero_le _) (fun _ => Nat.zero_le _) hits
  (fun j hj => by rw [zer_getD D j hj]; simp) (h0 w.heap.size w h.bl hle (Nat.le_refl _)) (by rw [List.nil_append, hst, ← hD]; exact List.prefix_refl _)
 exact hc
set_option maxHeartbeats 6400000 in
set_option maxRecDepth 40000 in
theorem ch_calls (L : List (List (List UInt8))) (hcp : cmplL L = true) (hf : Fits3 L) (A : Option Addr) (n c lB l : Nat) (hn : L.length = n) (W : World) (hlB : W.cell? ⟨lB, 0, none⟩ = some (.slice A n c)) (hs : Rdg W A L)
 (J Jx : Nat → List (List (List UInt8)) → World → Prop)
 (hJ : ∀ hi s X Y, J hi s X → Turns W.heap.size hi X Y → J hi s Y)
 (hY : ∀ hi pre x g X, J hi pre X → W.heap.size ≤ hi → hi ≤ g → pre ++ [x] <+: chsL L → RowV X g (strV x) →
  YieldAt Fence.wide 5 Tryz.prog l #[.slice (some ⟨g, 0, none⟩) x.length x.length] X fun e Y => Keeps W.heap.size hi X Y ∧ ((e = .returned (.bool true) ∧ J hi (pre ++ [x]) Y) ∨ (e = .returned (.bool false) ∧ Jx hi (pre ++ [x]) Y)))
 (h0 : ∀ hi X, Below W.heap.size W X → W.heap.size ≤ hi → hi ≤ X.heap.size → J hi [] X) :
 Calls Tryz.prog 122 #[.func (.yield l) #[] #[], .pointer (some ⟨lB, 0, none⟩)] W fun e W' => (∃ v, e = .returned v) ∧ ∃ hi, W.heap.size ≤ hi ∧ (J hi (chsL L) W' ∨ ∃ pre, pre <+: chsL L ∧ Jx hi pre W') := by
 have hn3 : n = 2 ∨ n = 3 := by rw [← hn]; exact comp_len hcp
 have hn4 : n ≤ 3 := by rcases hn3 with h | h <;> omega
 obtain ⟨b1, o1, hA, hb1, hrow⟩ : ∃ b1 o1, A = some ⟨b1, o1, none⟩ ∧ b1 < W.heap.size ∧ ∀ j, j < n → ∃ A1 c1, W.cell? ⟨b1, o1 + j, none⟩ = some (.slice A1 (L.getD j []).length c1) ∧ Strs W A1 (L.getD j []) := by
  obtain ⟨vs, h1, h2, h3⟩ := hs
  obtain ⟨b, o, e, hb, hc⟩ := h1.at_ (k := 0) (by omega)
  refine ⟨b, o, e, hb, fun j hj => ?_⟩
  obtain ⟨A', c', h4, h5⟩ := h3 j (L.getD j []) (by simp [List.getD, show j < L.length by omega])
  exact ⟨A', c', (hc j (by omega)).trans h4, h5⟩
 subst hA
 have hlb : lB < W.heap.size := block_lt_of_cell hlB
 have hdn : (dst L).length = n := by rw [dst_len, hn]
 have HLB := Lib.hid hlB
 have HROW := Lib.hid hrow
 have HN := Lib.hid (show _ ∧ _ from ⟨hn, hdn⟩)
 have HCP := Lib.hid (show _ ∧ _ ∧ _ from ⟨hcp, hf, hn3⟩)
 have HJ := Lib.hid hJ
 have HY := Lib.hid hY
 have H0 := Lib.hid h0
 have HO := Lib.hid (Own.start W)
 clear hlB hrow hn hdn hcp hf hn3 hJ hY h0 hs
 go_enter Tryz.func122, Tryz.ntmps122
 go_wp2_with (first
  | ((with_reducible refine at_box_ (d := 2) ?_); refine wpList_box_1 (op := ⟨some 2, _, _, _, _, _⟩) rfl _ _ rfl (.func (.yield l) #[] #[]) rfl rfl ?_; intro g2 v2b hf hr; replace HO := Lib.hid (HO.out.new hf hr); clear hf hr)
  | ((with_reducible refine at_load_ (d := 8) ?_); refine wpList_load_c rfl _ _ rfl lB 0 rfl _ ((HO.out.bl.cell (p := ⟨lB, 0, none⟩) hlb).trans HLB.out) (fun w => by kernel_rfl) ?_)
  | ((with_reducible refine at_make_ (d := 10) ?_); refine wpList_make_v rfl _ _ _ rfl _ _ rfl rfl (List.replicate n nilS) n _ (mk_opts n (by omega) _) ?_; intro go vgo hf hr; replace HO := Lib.hid (HO.out.new hf hr); clear hf hr)
  | ((with_reducible refine at_alloc_ (d := 3) ?_); refine wpList_alloc_1 (op := ⟨some 3, _, _, _, _, _⟩) rfl _ rfl nilS zero_b4 rfl ?_; intro g3 v3a hf hr; replace HO := Lib.hid (HO.out.new hf hr); clear hf hr)
  | ((with_reducible refine at_store_ (i := 3) ?_); refine wpList_store_at rfl _ (.tmp 3) _ rfl g3 0 [nilS] (.slice (some ⟨go, 0, none⟩) n n) rfl rfl (HO.out.row (i := 2) rfl) (by decide) rfl rfl size_b4 ?_; intro v3s hw hr; replace HO := Lib.hid (HO.out.set (i := 2) rfl hw hr); clear hw hr)
  | ((with_reducible refine at_load_ (d := 11) ?_); refine wpList_load_c rfl _ _ rfl lB 0 rfl _ ((HO.out.bl.cell (p := ⟨lB, 0, none⟩) hlb).trans HLB.out) (fun w => by kernel_rfl) ?_)
  | ((with_reducible refine at_make_ (d := 13) ?_); refine wpList_make_v rfl _ _ _ rfl _ _ rfl rfl (List.replicate n nilS) n _ (mk_opt n (by omega) _) ?_; intro gr vgr hf hr; replace HO := Lib.hid (HO.out.new hf hr); clear hf hr)
  | ((with_reducible refine at_alloc_ (d := 4) ?_); refine wpList_alloc_1 (op := ⟨some 4, _, _, _, _, _⟩) rfl _ rfl nilS zero_b3 rfl ?_; intro g4 v4a hf hr; replace HO := Lib.hid (HO.out.new hf hr); clear hf hr)
  | ((with_reducible refine at_store_ (i := 4) ?_); refine wpList_store_at rfl _ (.tmp 4) _ rfl g4 0 [nilS] (.slice (some ⟨gr, 0, none⟩) n n) rfl rfl (HO.out.row (i := 4) rfl) (by decide) rfl rfl size_b3 ?_; intro v4s hw hr; replace HO := Lib.hid (HO.out.set (i := 4) rfl hw hr); clear hw hr)
  | ((with_reducible refine at_load_ (d := 14) ?_); refine wpList_load_c rfl _ _ rfl lB 0 rfl _ ((HO.out.bl.cell (p := ⟨lB, 0, none⟩) hlb).trans HLB.out) (fun w => by kernel_rfl) ?_))
 replace HO : Hid (Own W v4s [(g2, [Value.func (.yield l) #[] #[]]), (go, List.replicate n nilS), (g3, [Value.slice (some ⟨go, 0, none⟩) n n]), (gr, List.replicate n nilS), (g4, [Value.slice (some ⟨gr, 0, none⟩) n n])]) := HO
 go_loopw [16] (fun i wr => ∃ (j : Nat), j ≤ n ∧ i = .int .i64 (j : Int) ∧ Hid (∃ (T : List (Nat × List Value)) (vs : List Value) (gR : Nat → Nat), vs.length = n ∧ OptTo T vs (dst L) j ∧ Own W wr ([(g2, [Value.func (.yield l) #[] #[]]), (go, vs), (g3, [Value.slice (some ⟨go, 0, none⟩) n n]), (gr, rowTo gR (dst L) j), (g4, [Value.slice (some ⟨gr, 0, none⟩) n n])] ++ T ++ zerTo gR (dst L) j))) (fun i _ => n - (intOf i).toNat)
 case atStart => exact ⟨0, by omega, rfl, Lib.hid ⟨[], List.replicate n nilS, fun _ => 0, by simp, fun i r hi _ => by omega, by rw [rowTo_zero, HN.out.2]; exact HO.out⟩⟩
 case round =>
  clear HO
  obtain ⟨j, hj, rfl, HH⟩ := hrel
  by_cases hlt : j < n
  ·
   have hj0 : (j : Int) < (n : Int) := by omega
   have hwj : wrap64 ((j : Int) + 1) = (j : Int) + 1 := by simp [wrap64]; omega
   have hjl : j < L.length := by rw [HN.out.1]; exact hlt
   obtain ⟨A1, c1, hc1, hs1⟩ := HROW.out j hlt
   have hr44 := (comp_row HCP.out.1 hjl).1
   have hdl := dst_row_len L hjl
   obtain ⟨r, hr⟩ : ∃ r, L.getD j [] = r := ⟨_, rfl⟩
   obtain ⟨ln, hln⟩ : ∃ ln, r.length = ln := ⟨_, rfl⟩
   rw [hr] at hs1 hc1 hr44 hdl
   rw [hln] at hc1 hr44 hdl
   have HC1 := Lib.hid hc1
   have HS1 := Lib.hid hs1
   have HR := Lib.hid (show _ ∧ _ ∧ _ ∧ _ from ⟨hjl, hr, hln, hdl⟩)
   clear hc1 hs1 hr hln hjl hdl
   obtain ⟨T, vs, gR, hvs, hopt, hown⟩ := HH.out
   have HO := Lib.hid hown
   have HOPT := Lib.hid hopt
   have HVS := Lib.hid hvs
   clear HH hown hopt hvs
   go_wp2_with fail
   refine wp_region_held_drew (S := fun Y => Below W.heap.size W Y ∧ RowV Y g3 [Value.slice (some ⟨go, 0, none⟩) n n]) (by kernel_rfl) ⟨HO.out.bl.trans ((Below.refl _ _).drew), (HO.out.row (i := 2) rfl).drew⟩ (fun hHeld => ?_)
   replace HO := Lib.hid (HO.out.on ((Below.refl _ _).drew))
   refine wpAnyH_take (i := 0) (oi := ⟨some 19, _, _, _, _, _⟩) (v := .slice (some ⟨go, 0, none⟩) n n) rfl (by kernel_rfl) (by kernel_rfl) (by kernel_rfl) (fun _ _ _ h => h) (Or.inl ⟨by rfl, (by intro w hSw; have h1 := hSw.2.cell 0; simp only [List.getElem?_cons_zero] at h1; go_simp; first | done | with_reducible rfl)⟩) hHeld ?_
   simp only [Act.put]
   refine wpAnyH_take (i := 1) (oi := ⟨some 20, _, _, _, _, _⟩) (v := .int .i64 (j : Int)) rfl (by kernel_rfl) (by kernel_rfl) (by kernel_rfl) (fun _ _ _ h => h) (Or.inl ⟨by rfl, (by intro w hSw; go_simp; first | done | with_reducible rfl)⟩) hHeld ?_
   simp only [Act.put]
   refine wpAnyH_take (i := 2) (oi := ⟨some 21, _, _, _, _, _⟩) (v := .slice (some ⟨b1, o1, none⟩) n c) rfl (by kernel_rfl) (by kernel_rfl) (by kernel_rfl) (fun _ _ _ h => h) (Or.inl ⟨by rfl, (by intro w hSw; have h1 := (hSw.1.cell (p := ⟨lB, 0, none⟩) hlb).trans HLB.out; go_simp; first | done | with_reducible rfl)⟩) hHeld ?_
   simp only [Act.put]
   refine wpAnyH_take (i := 3) (oi := ⟨some 22, _, _, _, _, _⟩) (v := .int .i64 (j : Int)) rfl (by kernel_rfl) (by kernel_rfl) (by kernel_rfl) (fun _ _ _ h => h) (Or.inl ⟨by rfl, (by intro w hSw; go_simp; first | done | with_reducible rfl)⟩) hHeld ?_
   simp only [Act.put]
   refine wpAnyH_take (i := 4) (oi := ⟨some 23, _, _, _, _, _⟩) (v := .pointer (some ⟨b1, o1 + j, none⟩)) rfl (by kernel_rfl) (by kernel_rfl) (by kernel_rfl) (fun _ _ _ h => h) (Or.inl ⟨by rfl, (by intro w hSw; go_simp; first | done | with_reducible rfl)⟩) hHeld ?_
   simp only [Act.put]
   refine wpAnyH_take (i := 5) (oi := ⟨some 24, _, _, _, _, _⟩) (v := .slice A1 ln c1) rfl (by kernel_rfl) (by kernel_rfl) (by kernel_rfl) (fun _ _ _ h => h) (Or.inl ⟨by rfl, (by intro w hSw; have h1 := (hSw.1.cell (p := ⟨b1, o1 + j, none⟩) hb1).trans HC1.out; go_simp; first | done | with_reducible rfl)⟩) hHeld ?_
   simp only [Act.put]
   refine wpAnyH_take (i := 6) (oi := ⟨some 25, _, _, _, _, _⟩) (v := .int .i64 (ln : Int)) rfl (by kernel_rfl) (by kernel_rfl) (by kernel_rfl) (fun _ _ _ h => h) (Or.inl ⟨by rfl, (by intro w hSw; go_simp; first | done | with_reducible rfl)⟩) hHeld ?_
   simp only [Act.put]
   refine wpAnyH_ready (rs := [7]) (by kernel_rfl) (by simp) ?_
   refine AllReadyH.cons (o := ⟨some 26, _, _, _, _, _⟩) rfl (fun K hK => ?_) AllReadyH.nil
   with_reducible refine ifP ?_ ?_
   kernel_rfl
   with_reducible refine o_mkn (vx := .int .i64 (ln : Int)) (vy := .int .i64 (ln : Int)) _ (.tmp 25) (.tmp 25) ?_ ?_ ?_ (List.replicate ln nilS) ln _ (mk_opt ln (by omega) _) ?_
   rfl
   go_simp
   go_simp
   intro gO vm hf hr
   replace HO := Lib.hid (HO.out.new hf hr)
   clear hf hr
   refine hK.out _ _ ⟨HO.out.bl, HO.out.row (i := 2) rfl⟩ (fun hHeld => ?_)
   clear hK K
   simp only [Act.put]
   refine wpAnyH_take (i := 8) (oi := ⟨some 27, _, _, _, _, _⟩) (v := .pointer (some ⟨go, j, none⟩)) rfl (by kernel_rfl) (by kernel_rfl) (by kernel_rfl) (fun _ _ _ h => h) (Or.inl ⟨by rfl, (by intro w hSw; go_simp; first | done | with_reducible rfl)⟩) hHeld ?_
   simp only [Act.put]
   refine wpAnyH_ready (rs := [9]) (by kernel_rfl) (by simp) ?_
   refine AllReadyH.cons (o := ⟨none, _, _, _, _, _⟩) rfl (fun K hK => ?_) AllReadyH.nil
   with_reducible refine ifP ?_ ?_
   kernel_rfl
   with_reducible refine wp_store_at 134 (.tmp 27) (.tmp 26) ?_ go j vs (.slice (some ⟨gO, 0, none⟩) ln ln) ?_ ?_ (HO.out.row (i := 1) ?_) (by rw [HVS.out]; exact hlt) ?_ ?_ size_b3 ?_
   rfl
   go_simp
   go_simp
   rfl
   rfl
   rfl
   intro v6s hw hr
   replace HO := Lib.hid (HO.out.set (i := 1) rfl hw hr)
   clear hw hr
   refine hK.out _ _ ⟨HO.out.bl, HO.out.row (i := 2) rfl⟩ (fun hHeld => ?_)
   clear hK K
   simp only [Act.put]
   refine wpAnyH_done (by kernel_rfl) ?_ _
   simp only [List.setIfInBounds_toArray, List.set_cons_succ, List.set_cons_zero]
   replace HO : Hid (Own W v6s (([(g2, [Value.func (.yield l) #[] #[]]), (go, vs.set j (.slice (some ⟨gO, 0, none⟩) ln ln)), (g3, [Value.slice (some ⟨go, 0, none⟩) n n]), (gr, rowTo gR (dst L) j), (g4, [Value.slice (some ⟨gr, 0, none⟩) n n])] ++ T) ++ zerTo gR (dst L) j ++ [(gO, List.replicate ln nilS)])) := HO
   replace HO := Lib.hid HO.out.mid
   clear hHeld
   go_wp2_with fail
   refine wp_region_held_drew (S := fun Y => Below W.heap.size W Y ∧ RowV Y g4 [Value.slice (some ⟨gr, 0, none⟩) n n]) (by kernel_rfl) ⟨HO.out.bl.trans ((Below.refl _ _).drew), (HO.out.row (i := 4) rfl).drew⟩ (fun hHeld => ?_)
   replace HO := Lib.hid (HO.out.on ((Below.refl _ _).drew))
   refine wpAnyH_take (i := 0) (oi := ⟨some 28, _, _, _, _, _⟩) (v := .slice (some ⟨gr, 0, none⟩) n n) rfl (by kernel_rfl) (by kernel_rfl) (by kernel_rfl) (fun _ _ _ h => h) (Or.inl ⟨by rfl, (by intro w hSw; have h1 := hSw.2.cell 0; simp only [List.getElem?_cons_zero] at h1; go_simp; first | done | with_reducible rfl)⟩) hHeld ?_
   simp only [Act.put]
   refine wpAnyH_take (i := 1) (oi := ⟨some 29, _, _, _, _, _⟩) (v := .int .i64 (j : Int)) rfl (by kernel_rfl) (by kernel_rfl) (by kernel_rfl) (fun _ _ _ h => h) (Or.inl ⟨by rfl, (by intro w hSw; go_simp; first | done | with_reducible rfl)⟩) hHeld ?_
   simp only [Act.put]
   refine wpAnyH_take (i := 2) (oi := ⟨some 30, _, _, _, _, _⟩) (v := .slice (some ⟨b1, o1, none⟩) n c) rfl (by kernel_rfl) (by kernel_rfl) (by kernel_rfl) (fun _ _ _ h => h) (Or.inl ⟨by rfl, (by intro w hSw; have h1 := (hSw.1.cell (p := ⟨lB, 0, none⟩) hlb).trans HLB.out; go_simp; first | done | with_reducible rfl)⟩) hHeld ?_
   simp only [Act.put]
   refine wpAnyH_take (i := 3) (oi := ⟨some 31, _, _, _, _, _⟩) (v := .int .i64 (j : Int)) rfl (by kernel_rfl) (by kernel_rfl) (by kernel_rfl) (fun _ _ _ h => h) (Or.inl ⟨by rfl, (by intro w hSw; go_simp; first | done | with_reducible rfl)⟩) hHeld ?_
   simp only [Act.put]
   refine wpAnyH_take (i := 4) (oi := ⟨some 32, _, _, _, _, _⟩) (v := .pointer (some ⟨b1, o1 + j, none⟩)) rfl (by kernel_rfl) (by kernel_rfl) (by kernel_rfl) (fun _ _ _ h => h) (Or.inl ⟨by rfl, (by intro w hSw; go_simp; first | done | with_reducible rfl)⟩) hHeld ?_
   simp only [Act.put]
   refine wpAnyH_take (i := 5) (oi := ⟨some 33, _, _, _, _, _⟩) (v := .slice A1 ln c1) rfl (by kernel_rfl) (by kernel_rfl) (by kernel_rfl) (fun _ _ _ h => h) (Or.inl ⟨by rfl, (by intro w hSw; have h1 := (hSw.1.cell (p := ⟨b1, o1 + j, none⟩) hb1).trans HC1.out; go_simp; first | done | with_reducible rfl)⟩) hHeld ?_
   simp only [Act.put]
   refine wpAnyH_take (i := 6) (oi := ⟨some 34, _, _, _, _, _⟩) (v := .int .i64 (ln : Int)) rfl (by kernel_rfl) (by kernel_rfl) (by kernel_rfl) (fun _ _ _ h => h) (Or.inl ⟨by rfl, (by intro w hSw; go_simp; first | done | with_reducible rfl)⟩) hHeld ?_
   simp only [Act.put]
   refine wpAnyH_ready (rs := [7]) (by kernel_rfl) (by simp) ?_
   refine AllReadyH.cons (o := ⟨some 35, _, _, _, _, _⟩) rfl (fun K hK => ?_) AllReadyH.nil
   with_reducible refine ifP ?_ ?_
   kernel_rfl
   with_reducible refine o_mkn (vx := .int .i64 (ln : Int)) (vy := .int .i64 (ln : Int)) _ (.tmp 34) (.tmp 34) ?_ ?_ ?_ (List.replicate ln (Value.int .u8 0)) ln _ (mk_row8 ln (by omega) _) ?_
   rfl
   go_simp
   go_simp
   intro gN vm hf hr
   replace HO := Lib.hid (HO.out.new hf hr)
   clear hf hr
   refine hK.out _ _ ⟨HO.out.bl, HO.out.row (i := 4) rfl⟩ (fun hHeld => ?_)
   clear hK K
   simp only [Act.put]
   refine wpAnyH_take (i := 8) (oi := ⟨some 36, _, _, _, _, _⟩) (v := .pointer (some ⟨gr, j, none⟩)) rfl (by kernel_rfl) (by kernel_rfl) (by kernel_rfl) (fun _ _ _ h => h) (Or.inl ⟨by rfl, (by intro w hSw; go_simp; first | done | with_reducible rfl)⟩) hHeld ?_
   simp only [Act.put]
   refine wpAnyH_ready (rs := [9]) (by kernel_rfl) (by simp) ?_
   refine AllReadyH.cons (o := ⟨none, _, _, _, _, _⟩) rfl (fun K hK => ?_) AllReadyH.nil
   with_reducible refine ifP ?_ ?_
   kernel_rfl
   with_reducible refine wp_store_at 59 (.tmp 36) (.tmp 35) ?_ gr j (rowTo gR (dst L) j) (.slice (some ⟨gN, 0, none⟩) ln ln) ?_ ?_ (HO.out.row (i := 3) ?_) (by rw [rowTo_len, HN.out.2]; exact hlt) ?_ ?_ size_sb ?_
   rfl
   go_simp
   go_simp
   rfl
   rfl
   rfl
   intro v7s hw hr
   replace HO := Lib.hid (HO.out.set (i := 3) rfl hw hr)
   clear hw hr
   refine hK.out _ _ ⟨HO.out.bl, HO.out.row (i := 4) rfl⟩ (fun hHeld => ?_)
   clear hK K
   simp only [Act.put]
   refine wpAnyH_done (by kernel_rfl) ?_ _
   simp only [List.setIfInBounds_toArray, List.set_cons_succ, List.set_cons_zero]
   have HO7 : Hid (Own W v7s ([(g2, [Value.func (.yield l) #[] #[]]), (go, vs.set j (.slice (some ⟨gO, 0, none⟩) ln ln)), (g3, [Value.slice (some ⟨go, 0, none⟩) n n]), (gr, rowTo (fun i => if i = j then gN else gR i) (dst L) (j + 1)), (g4, [Value.slice (some ⟨gr, 0, none⟩) n n])] ++ (T ++ [(gO, List.replicate ln nilS)] ++ []) ++ zerTo (fun i => if i = j then gN else gR i) (dst L) (j + 1))) := Lib.hid (by
    have h := HO.out
    rw [← rowTo_set gR (dst L) (by rw [HN.out.2]; exact hlt), ← zerTo_succ, HR.out.2.2.2, Us_zeros, List.append_nil]
    simp only [List.append_assoc] at h ⊢
    exact h)
   obtain ⟨gR2, hgR2⟩ : ∃ gR2 : Nat → Nat, (fun i => if i = j then gN else gR i) = gR2 := ⟨_, rfl⟩
   obtain ⟨vs2, hvs2⟩ : ∃ vs2, vs.set j (Value.slice (some ⟨gO, 0, none⟩) ln ln) = vs2 := ⟨_, rfl⟩
   rw [hgR2, hvs2] at HO7
   have HV2 := Lib.hid (show vs2.length = n ∧ vs2[j]? = some (Value.slice (some ⟨gO, 0, none⟩) ln ln) ∧ OptTo T vs2 (dst L) j from ⟨by rw [← hvs2, List.length_set]; exact HVS.out, by rw [← hvs2, List.getElem?_set_self (by rw [HVS.out]; exact hlt)], by rw [← hvs2]; exact HOPT.out.set _⟩)
   clear HO hHeld hgR2 hvs2 HVS HOPT
   go_wp2_with (first
    | ((with_reducible refine at_load_ (d := 37) ?_); refine wpList_load_c rfl _ _ rfl lB 0 rfl _ ((HO7.out.bl.cell (p := ⟨lB, 0, none⟩) hlb).trans HLB.out) (fun w => by kernel_rfl) ?_)
    | ((with_reducible refine at_load_ (d := 40) ?_); refine wpList_load_c rfl _ _ rfl b1 (o1 + j) rfl _ ((HO7.out.bl.cell (p := ⟨b1, o1 + j, none⟩) hb1).trans HC1.out) (fun w => by kernel_rfl) ?_))
   go_loopw [42] (fun i wq => ∃ (k : Nat), k ≤ ln ∧ i = .int .i64 (k : Int) ∧ Hid (∃ (us : List Value) (DS : List (Nat × List Value)), us.length = ln ∧ (∀ (k' : Nat) (s : List UInt8), k' < k → ((dst L).getD j [])[k']? = some s → ∃ (g c : Nat) (ex : List Value), us[k']? = some (Value.slice (some ⟨g, 0, none⟩) s.length c) ∧ (g, Us s ++ ex) ∈ DS) ∧ Own W wq ([(g2, [Value.func (.yield l) #[] #[]]), (go, vs2), (g3, [Value.slice (some ⟨go, 0, none⟩) n n]), (gr, rowTo gR2 (dst L) (j + 1)), (g4, [Value.slice (some ⟨gr, 0, none⟩) n n])] ++ (T ++ [(gO, us)] ++ DS) ++ zerTo gR2 (dst L) (j + 1)))) (fun i _ => ln - (intOf i).toNat)
   case atStart => exact ⟨0, by omega, rfl, Lib.hid ⟨List.replicate ln nilS, [], by simp, fun k' s hk' _ => by omega, HO7.out⟩⟩
   case round =>
    clear HO7
    obtain ⟨k, hk, rfl, HH⟩ := hrel
    obtain ⟨us, DS, hus, hds, hown⟩ := HH.out
    have HO := Lib.hid hown
    have HDS := Lib.hid (show _ ∧ _ from ⟨hus, hds⟩)
    clear HH hus hds hown
    by_cases hlk : k < ln
    ·
     have hk0 : (k : Int) < (ln : Int) := by omega
     have hwk : wrap64 ((k : Int) + 1) = (k : Int) + 1 := by simp [wrap64]; omega
     have hkr : k < r.length := by rw [HR.out.2.2.1]; exact hlk
     obtain ⟨b2, o2, rfl, hb2, hc2a⟩ := HS1.out.cell (by omega)
     have hc2 := hc2a k hkr
     obtain ⟨x, hx⟩ : ∃ x, r.getD k [] = x := ⟨_, rfl⟩
     obtain ⟨m, hm⟩ : ∃ m, (sortU x).length = m := ⟨_, rfl⟩
     rw [hx] at hc2
     have HC2 := Lib.hid hc2
     have hx0 : x ≠ [] := by
      have := comp_ne HCP.out.1 HR.out.1 (k := k) (by rw [HR.out.2.1]; exact hkr)
      rwa [HR.out.2.1, hx] at this
     have hxl : x.length ≤ 4611686018427387904 := by
      have := HCP.out.2.1.at3 HR.out.1 (k := k) (by rw [HR.out.2.1]; exact hkr)
      rwa [HR.out.2.1, hx] at this
     have hdk : ((dst L).getD j []).getD k [] = sortU x := by rw [dst_get2 L HR.out.1 (by rw [HR.out.2.1]; exact hkr), HR.out.2.1, hx]
     have HD := Lib.hid (fun w => p_distinct x hx0 hxl w)
     have HDK := Lib.hid (show _ ∧ _ from ⟨hdk, hm⟩)
     rw [hm] at HD
     clear hc2 hc2a hx hm hx0 hxl hdk hkr
     go_wp2_with fail
     refine wp_region_held_drew (S := fun Y => Below W.heap.size W Y ∧ RowV Y g3 [Value.slice (some ⟨go, 0, none⟩) n n] ∧ RowV Y go vs2) (by kernel_rfl) ⟨HO.out.bl.trans ((Below.refl _ _).drew), (HO.out.row (i := 2) rfl).drew, (HO.out.row (i := 1) rfl).drew⟩ (fun hHeld => ?_)
     replace HO := Lib.hid (HO.out.on ((Below.refl _ _).drew))
     refine wpAnyH_take (i := 0) (oi := ⟨some 45, _, _, _, _, _⟩) (v := .slice (some ⟨go, 0, none⟩) n n) rfl (by kernel_rfl) (by kernel_rfl) (by kernel_rfl) (fun _ _ _ h => h) (Or.inl ⟨by rfl, (by intro w hSw; have h1 := hSw.2.1.cell 0; simp only [List.getElem?_cons_zero] at h1; go_simp; first | done | with_reducible rfl)⟩) hHeld ?_
     simp only [Act.put]
     refine wpAnyH_take (i := 1) (oi := ⟨some 46, _, _, _, _, _⟩) (v := .int .i64 (j : Int)) rfl (by kernel_rfl) (by kernel_rfl) (by kernel_rfl) (fun _ _ _ h => h) (Or.inl ⟨by rfl, (by intro w hSw; go_simp; first | done | with_reducible rfl)⟩) hHeld ?_
     simp only [Act.put]
     refine wpAnyH_take (i := 2) (oi := ⟨some 47, _, _, _, _, _⟩) (v := .pointer (some ⟨go, j, none⟩)) rfl (by kernel_rfl) (by kernel_rfl) (by kernel_rfl) (fun _ _ _ h => h) (Or.inl ⟨by rfl, (by intro w hSw; go_simp; first | done | with_reducible rfl)⟩) hHeld ?_
     simp only [Act.put]
     refine wpAnyH_take (i := 3) (oi := ⟨some 48, _, _, _, _, _⟩) (v := .slice (some ⟨gO, 0, none⟩) ln ln) rfl (by kernel_rfl) (by kernel_rfl) (by kernel_rfl) (fun _ _ _ h => h) (Or.inl ⟨by rfl, (by intro w hSw; have h1 := (hSw.2.2.cell j).trans HV2.out.2.1; go_simp; first | done | with_reducible rfl)⟩) hHeld ?_
     simp only [Act.put]
     refine wpAnyH_take (i := 4) (oi := ⟨some 49, _, _, _, _, _⟩) (v := .int .i64 (k : Int)) rfl (by kernel_rfl) (by kernel_rfl) (by kernel_rfl) (fun _ _ _ h => h) (Or.inl ⟨by rfl, (by intro w hSw; go_simp; first | done | with_reducible rfl)⟩) hHeld ?_
     simp only [Act.put]
     refine wpAnyH_take (i := 5) (oi := ⟨some 50, _, _, _, _, _⟩) (v := .slice (some ⟨b1, o1, none⟩) n c) rfl (by kernel_rfl) (by kernel_rfl) (by kernel_rfl) (fun _ _ _ h => h) (Or.inl ⟨by rfl, (by intro w hSw; have h1 := (hSw.1.cell (p := ⟨lB, 0, none⟩) hlb).trans HLB.out; go_simp; first | done | with_reducible rfl)⟩) hHeld ?_
     simp only [Act.put]
     refine wpAnyH_take (i := 6) (oi := ⟨some 51, _, _, _, _, _⟩) (v := .int .i64 (j : Int)) rfl (by kernel_rfl) (by kernel_rfl) (by kernel_rfl) (fun _ _ _ h => h) (Or.inl ⟨by rfl, (by intro w hSw; go_simp; first | done | with_reducible rfl)⟩) hHeld ?_
     simp only [Act.put]
     refine wpAnyH_take (i := 7) (oi := ⟨some 52, _, _, _, _, _⟩) (v := .pointer (some ⟨b1, o1 + j, none⟩)) rfl (by kernel_rfl) (by kernel_rfl) (by kernel_rfl) (fun _ _ _ h => h) (Or.inl ⟨by rfl, (by intro w hSw; go_simp; first | done | with_reducible rfl)⟩) hHeld ?_
     simp only [Act.put]
     refine wpAnyH_take (i := 8) (oi := ⟨some 53, _, _, _, _, _⟩) (v := .slice (some ⟨b2, o2, none⟩) ln c1) rfl (by kernel_rfl) (by kernel_rfl) (by kernel_rfl) (fun _ _ _ h => h) (Or.inl ⟨by rfl, (by intro w hSw; have h1 := (hSw.1.cell (p := ⟨b1, o1 + j, none⟩) hb1).trans HC1.out; go_simp; first | done | with_reducible rfl)⟩) hHeld ?_
     simp only [Act.put]
     refine wpAnyH_take (i := 9) (oi := ⟨some 54, _, _, _, _, _⟩) (v := .int .i64 (k : Int)) rfl (by kernel_rfl) (by kernel_rfl) (by kernel_rfl) (fun _ _ _ h => h) (Or.inl ⟨by rfl, (by intro w hSw; go_simp; first | done | with_reducible rfl)⟩) hHeld ?_
     simp only [Act.put]
     refine wpAnyH_take (i := 10) (oi := ⟨some 55, _, _, _, _, _⟩) (v := .pointer (some ⟨b2, o2 + k, none⟩)) rfl (by kernel_rfl) (by kernel_rfl) (by kernel_rfl) (fun _ _ _ h => h) (Or.inl ⟨by rfl, (by intro w hSw; go_simp; first | done | with_reducible rfl)⟩) hHeld ?_
     simp only [Act.put]
     refine wpAnyH_take (i := 11) (oi := ⟨some 56, _, _, _, _, _⟩) (v := .string (S x)) rfl (by kernel_rfl) (by kernel_rfl) (by kernel_rfl) (fun _ _ _ h => h) (Or.inl ⟨by rfl, (by intro w hSw; have h1 := (hSw.1.cell (p := ⟨b2, o2 + k, none⟩) hb2).trans HC2.out; go_simp; first | done | with_reducible rfl)⟩) hHeld ?_
     simp only [Act.put]
     refine wpAnyH_ready (rs := [12]) (by kernel_rfl) (by simp) ?_
     refine AllReadyH.cons (o := ⟨some 57, _, _, _, _, _⟩) rfl (fun K hK => ?_) AllReadyH.nil
     with_reducible refine ifP ?_ ?_
     kernel_rfl
     with_reducible refine o_cfn (f := 65) (args := #[.string (S x)]) ?_ (HD.out _) ?_
     go_simp
     rintro e w3 ⟨gd, cd, exd, rfl, hge, hr, hb⟩
     replace HO := Lib.hid (HO.out.add hb hr hge)
     clear hge hr hb
     refine ⟨_, rfl, hK.out _ _ ⟨HO.out.bl, HO.out.row (i := 2) rfl, HO.out.row (i := 1) rfl⟩ (fun hHeld => ?_)⟩
     clear hK K
     simp only [Act.put]
     replace HO : Hid (Own W w3 ([(g2, [Value.func (.yield l) #[] #[]]), (go, vs2), (g3, [Value.slice (some ⟨go, 0, none⟩) n n]), (gr, rowTo gR2 (dst L) (j + 1)), (g4, [Value.slice (some ⟨gr, 0, none⟩) n n])] ++ (T ++ [(gO, us)] ++ (DS ++ [(gd, Us (sortU x) ++ exd)])) ++ zerTo gR2 (dst L) (j + 1))) := Lib.hid (by
      have h := HO.out.mid
      simp only [List.append_assoc] at h ⊢
      exact h)
     refine wpAnyH_take (i := 13) (oi := ⟨some 58, _, _, _, _, _⟩) (v := .pointer (some ⟨gO, k, none⟩)) rfl (by kernel_rfl) (by kernel_rfl) (by kernel_rfl) (fun _ _ _ h => h) (Or.inl ⟨by rfl, (by intro w hSw; go_simp; first | done | with_reducible rfl)⟩) hHeld ?_
     simp only [Act.put]
     refine wpAnyH_ready (rs := [14]) (by kernel_rfl) (by simp) ?_
     refine AllReadyH.cons (o := ⟨none, _, _, _, _, _⟩) rfl (fun K hK => ?_) AllReadyH.nil
     with_reducible refine ifP ?_ ?_
     kernel_rfl
     with_reducible refine wp_store_at 59 (.tmp 58) (.tmp 57) ?_ gO k us (.slice (some ⟨gd, 0, none⟩) m cd) ?_ ?_ (HO.out.row (i := 5 + T.length) ?_) (by rw [HDS.out.1]; exact hlk) ?_ ?_ size_sb ?_
     rfl
     go_simp
     go_simp
     exact get5 _ _ _ _ _ _ _ _ _
     rfl
     rfl
     intro v11 hw hr
     replace HO := Lib.hid (HO.out.set (i := 5 + T.length) (get5 _ _ _ _ _ _ _ _ _) hw hr)
     rw [set5] at HO
     clear hw hr
     refine hK.out _ _ ⟨HO.out.bl, HO.out.row (i := 2) rfl, HO.out.row (i := 1) rfl⟩ (fun hHeld => ?_)
     clear hK K
     simp only [Act.put]
     refine wpAnyH_done (by kernel_rfl) ?_ _
     simp only [List.setIfInBounds_toArray, List.set_cons_succ, List.set_cons_zero]
     go_wp2
     go_roundw
     case rel =>
      refine ⟨k + 1, by omega, by go_num, Lib.hid ⟨us.set k (.slice (some ⟨gd, 0, none⟩) m cd), DS ++ [(gd, Us (sortU x) ++ exd)], by rw [List.length_set]; exact HDS.out.1, fun k' s hk' hs => ?_, HO.out⟩⟩
      by_cases e : k' = k
      · subst e
        have h1 : ((dst L).getD j []).getD k' [] = s := by rw [List.getD_eq_getElem?_getD, hs]; rfl
        rw [HDK.out.1] at h1
        subst h1
        exact ⟨gd, cd, exd, by rw [List.getElem?_set_self (by rw [HDS.out.1]; exact hlk), HDK.out.2], by simp⟩
      · obtain ⟨g, c, ex, h1, h2⟩ := HDS.out.2 k' s (by omega) hs
        exact ⟨g, c, ex, by rw [List.getElem?_set_ne (Ne.symm e)]; exact h1, List.mem_append_left _ h2⟩
     case measure => simp [intOf]; omega
    · obtain rfl : k = ln := by omega
      go_wp2
      go_roundw
      case rel =>
       have hdj : (dst L)[j]? = some ((dst L).getD j []) := by simp [List.getD, show j < (dst L).length by rw [HN.out.2]; exact hlt]
       refine ⟨j + 1, by omega, by go_num, Lib.hid ⟨T ++ [(gO, us)] ++ DS, vs2, gR2, HV2.out.1, HV2.out.2.2.row hdj (by rw [HR.out.2.2.2]; exact HV2.out.2.1) (by rw [HR.out.2.2.2]; exact HDS.out.1) (fun k' s hs => HDS.out.2 k' s ?_ hs), HO.out⟩⟩
       have := (List.getElem?_eq_some_iff.1 hs).1
       rw [HR.out.2.2.2] at this
       exact this
      case measure => simp [intOf]; omega
  ·
   obtain rfl : j = n := by omega
   obtain ⟨T, vs, gR, hvs, hopt, hown⟩ := HH.out
   have HO := Lib.hid hown
   have HOPT := Lib.hid (show _ ∧ _ from ⟨hvs, hopt⟩)
   clear HH hvs hopt hown
   obtain ⟨D, hD⟩ : ∃ D, dst L = D := ⟨_, rfl⟩
   have HDD := Lib.hid hD
   rw [hD] at HO HOPT HN
   have HO1 := Lib.hid (show Own W wr ([(g2, [Value.func (.yield l) #[] #[]]), (go, vs), (g3, [Value.slice (some ⟨go, 0, none⟩) j j]), (gr, rwV gR D), (g4, [Value.slice (some ⟨gr, 0, none⟩) j j])] ++ T ++ zerTo gR D D.length) from by
    have h := HO.out
    rwa [show rowTo gR D j = rwV gR D from by rw [← rowTo_all, HN.out.2], show zerTo gR D j = zerTo gR D D.length from by rw [HN.out.2]] at h)
   clear HO hD
   go_wp2_with (first
    | ((with_reducible refine at_alloc_ (d := 7) ?_); refine wpList_alloc_1 (op := ⟨some 7, _, _, _, _, _⟩) rfl _ rfl .nilFunc zero_f2 rfl ?_; intro g7 v7a hf hr; have HO2 := Lib.hid ((HO1.out.new hf hr).mid); clear hf hr)
    | ((with_reducible refine at_store_ (i := 7) ?_); refine wpList_store_at rfl _ (.tmp 7) _ rfl g7 0 [Value.nilFunc] (.func (.func 123) #[] #[.pointer (some ⟨g4, 0, none⟩), .pointer (some ⟨g2, 0, none⟩), .pointer (some ⟨g7, 0, none⟩), .pointer (some ⟨g3, 0, none⟩)]) rfl rfl (HO2.out.row (i := 5 + T.length) (by have h := get5 (g2, [Value.func (.yield l) #[] #[]]) (go, vs) (g3, [Value.slice (some ⟨go, 0, none⟩) j j]) (gr, rwV gR D) (g4, [Value.slice (some ⟨gr, 0, none⟩) j j]) (g7, [Value.nilFunc]) T [] (zerTo gR D D.length); simpa only [List.append_assoc, List.append_nil] using h)) (by decide) rfl rfl size_f2 ?_; intro v7s hw hr; have HO3 := Lib.hid (own_set7 HO2.out hw hr); clear hw hr)
    | ((with_reducible refine at_load_ (d := 62) ?_); refine wpList_load_c rfl _ _ rfl g7 0 rfl _ (own_get7 HO3.out) (fun w => by kernel_rfl) ?_; have HPC := Lib.hid (ch_start HCP.out.1 HDD.out HN.out.2 HOPT.out.1 HOPT.out.2 HO3.out HJ.out HY.out H0.out))
    | (go_at_call 123; ((with_reducible refine HPC.out.mono ?_); rintro e w9 hp); replace hp := hp.hid; rcases hp with ⟨rfl, HP⟩ | ⟨rfl, HP⟩))
   · go_end0
     have h1 := HP.out.1
     rw [List.nil_append, out_start (by rw [HN.out.2]; have := HCP.out.2.2; omega), ← HDD.out] at h1
     exact ⟨⟨_, rfl⟩, _, HO3.out.bl.size, .inl h1⟩
   · go_end0
     obtain ⟨q, q1, q2⟩ := HP.out
     rw [out_start (by rw [HN.out.2]; have := HCP.out.2.2; omega), ← HDD.out] at q1
     exact ⟨⟨_, rfl⟩, _, HO3.out.bl.size, .inr ⟨q, q1, by simpa using q2⟩⟩
attribute [local go_sem] Oper.semAt_some
theorem ch_seq (L : List (List (List UInt8))) (hcp : cmplL L = true) (hf : Fits3 L) (A : Option Addr) (n c lB : Nat) (hn : L.length = n) (w0 : World) (hlB : w0.cell? ⟨lB, 0, none⟩ = some (.slice A n c)) (hs : Rdg w0 A L) :
 SeqX Tryz.prog 122 #[.pointer (some ⟨lB, 0, none⟩)] (chsL L) (fun _ => True) w0 := fun l J Jx W hW hJ hJx hR hY h0 =>
 callsIn_wide.2 (ch_calls L hcp hf A n c lB l hn W ((hW.cell (p := ⟨lB, 0, none⟩) (block_lt_of_cell hlB)).trans hlB) (hs.on hW) J Jx hJ hY h0)
theorem p_readings0 (A : Option Addr) (n c : Nat) (w : World) : Calls Tryz.prog 50 #[.slice A n c] w fun e w' => e = .returned (.func (.func 83) #[] #[.pointer (some ⟨w.heap.size, 0, none⟩)]) ∧ w' = w.alloc (.cells #[.slice A n c] 27) := by
 go_enter Tryz.func50, Tryz.ntmps50
 go_wp2
 go_ret
 exact ⟨rfl, rfl⟩
section
variable {P : Program} {l n : Nat} {ops : Array Oper} {Q : Exit → Act → World → Prop}
theorem op_round {o : Oper} {a : Act} {w : World} {K : Act → World → Prop} (hnd : ∀ c, o.op ≠ .defer c) (h : o.wp P a w K Q) : o.wpIn (Fence.wide.inRound l) n P a w K Q := by
 refine ⟨fun f _ => trivial, ?_⟩
 rw [Oper.semAt_plain _ _ _ hnd]
 unfold Oper.wp at h
 revert h
 generalize (execOp a.eval o).run P w = r
 intro h
 cases r with
 | ok x w' =>
  cases x with
  | enter f args => exact ⟨fun hd => (by simp [Fence.wide] at hd), calls_round _ h⟩
  | row r args => exact ⟨fun hd => (by simp [Fence.wide] at hd), rows_round _ h⟩
  | _ => first | exact h | exact h.elim
 | halt x w' => cases x <;> exact h
def noDefer (o : Oper) : Bool := match o.op with
 | .defer _ => false
 | _ => true
theorem at_allocIn_ {F : Fence} {rest : List Oper} {a : Act} {w : World} {d : Nat} {ty t : TypeId} {ps : String} {af : Array Edge} {gd : Option (Nat × Bool)} (h : wpListIn F n P ops Q (⟨some d, .alloc ty, t, ps, af, gd⟩ :: rest) a w) : wpListIn F n P ops Q (⟨some d, .alloc ty, t, ps, af, gd⟩ :: rest) a w := h
theorem list_round (hQ : ¬ LetsOut Q) : ∀ (rest : List Oper) (a : Act) (w : World), rest.all noDefer = true → wpList P ops Q rest a w → wpListIn (Fence.wide.inRound l) n P ops Q rest a w
 | [], _, _, _, h => h
 | o :: rest, a, w, hn, h => by
  rw [List.all_cons, Bool.and_eq_true] at hn
  unfold wpList at h
  unfold wpListIn
  by_cases hw : Region.wanted o (yielded ops a.tmps) = true
  · rw [if_pos hw] at h ⊢
    rcases h with h | h
    · refine op_round (fun c e => ?_) (Oper.wp_mono (fun a' w' h3 => list_round hQ rest a' w' hn.2 h3) h)
      have h1 := hn.1
      unfold noDefer at h1
      rw [e] at h1
      cases h1
    · exact absurd h.2 hQ
  · rw [if_neg hw] at h ⊢
    exact ⟨fun _ _ => trivial, list_round hQ rest _ w hn.2 h⟩
end
set_option maxRecDepth 100000 in
set_option maxHeartbeats 2000000 in
theorem rd_seq (L : List (List (List UInt8))) (hcp : cmplL L = true) (hf : Fits3 L) (A : Option Addr) (n c lB : Nat) (hn : L.length = n) (w0 : World) (hlB : w0.cell? ⟨lB, 0, none⟩ = some (.slice A n c)) (hs : Rdg w0 A L) :
 SeqX Tryz.prog 83 #[.pointer (some ⟨lB, 0, none⟩)] (rdL L) Mm w0 := by
 intro l J Jx W hW hJ hJx hR hY h0
 have hlb : lB < W.heap.size := Nat.lt_of_lt_of_le (block_lt_of_cell hlB) hW.size
 have hc1 := (hW.cell (p := ⟨lB, 0, none⟩) (block_lt_of_cell hlB)).trans hlB
 have HS := Lib.hid (hs.on hW)
 have HJ := Lib.hid hJ
 have HJX := Lib.hid hJx
 have HR := Lib.hid hR
 have HY := Lib.hid hY
 have H0 := Lib.hid h0
 have HC := Lib.hid (show _ ∧ _ ∧ _ from ⟨hcp, hf, hn⟩)
 clear hW hJ hJx hR hY h0 hs hlB hcp hf hn
 refine callsIn_of_wp_marks Tryz.func83 rfl trivial ?_ rfl
 simp only [Tryz.ntmps83, List.size_toArray, List.length_cons, List.length_nil, Nat.reduceAdd, Nat.reduceSub, Array.replicate_succ, Array.replicate_zero, List.push_toArray, List.append_toArray, List.nil_append, List.cons_append]
 refine wpIn_wide.2 ?_
 have HO := Lib.hid (Own.start W)
 have HCL := Lib.hid hc1
 clear hc1
 go_wp2_with (first
  | ((with_reducible refine at_box_ (d := 2) ?_); refine wpList_box_1 (op := ⟨some 2, _, _, _, _, _⟩) rfl _ _ rfl (.func (.yield l) #[] #[]) rfl rfl ?_; intro yB v2b hf hr; replace HO := Lib.hid (HO.out.new hf hr); clear hf hr)
  | ((with_reducible refine at_load_ (d := 6) ?_); refine wpList_load_c rfl _ _ rfl lB 0 rfl _ ((HO.out.bl.cell (p := ⟨lB, 0, none⟩) hlb).trans HCL.out) (fun w => by kernel_rfl) ?_)
  | (go_at_call 84; (with_reducible refine (p_choices _ _ _ _).mono ?_); rintro e w' ⟨rfl, rfl⟩; replace HO := Lib.hid (HO.out.newAt #[.slice A n c] 27)))
 obtain ⟨lC, hlC⟩ : ∃ lC, v2b.heap.size = lC := ⟨_, rfl⟩
 obtain ⟨W2, hW2⟩ : ∃ W2, v2b.alloc (Obj.cells #[Value.slice A n c] 27) = W2 := ⟨_, rfl⟩
 rw [hlC, hW2] at HO
 rw [hlC, hW2]
 clear hlC hW2
 have hb2 := HO.out.bl
 have hrow2 := HO.out.row (i := 0) rfl
 have hcl2 := (HO.out.row (i := 1) rfl).cell 0
 simp only [List.getElem?_cons_zero] at hcl2
 have HG := Lib.hid (show W.heap.size ≤ yB ∧ yB < W2.heap.size from ⟨HO.out.ge (i := 0) rfl, hrow2.lt⟩)
 have HB2 := Lib.hid hb2
 have HY2 := Lib.hid hrow2
 have HS2 := Lib.hid (HS.out.on hb2)
 have HQ := Lib.hid (ch_seq L HC.out.1 HC.out.2.1 A n c lC HC.out.2.2 W2 hcl2 HS2.out)
 clear hb2 hrow2 hcl2 HO HCL
 refine wpIn_wide.1 (?_ : Code.wpIn Fence.wide 9 _ _ _ _ _)
 refine range_x HQ.out (Below.refl _ _) (gf := 122) (lb := #[.pointer (some ⟨lC, 0, none⟩)]) rfl (enters_of Tryz.func122 (by kernel_rfl) rfl) rfl
  (fun hi pre X => J hi (pre.filter fun x => parE x == 0) X ∧ RowV X yB [.func (.yield l) #[] #[]] ∧ W2.heap.size ≤ X.heap.size)
  (fun hi pre X => ∃ q, q <+: rdL L ∧ Jx hi q X)
  (fun hi s X Y h _ ht => ⟨HJ.out hi _ X Y h.1 (ht.mono HB2.out.size (Nat.le_refl _)), h.2.1.below ht.1 HG.out.2, Nat.le_trans h.2.2 ht.1.size⟩)
  (fun hi s X Y h _ ht => by obtain ⟨q, h1, h2⟩ := h; exact ⟨q, h1, HJX.out hi q X Y h2 (ht.mono HB2.out.size (Nat.le_refl _))⟩)
  (fun _ _ _ _ => trivial)
  (fun hi X hX h1 h2 => ⟨H0.out hi X (HB2.out.trans (hX.mono HB2.out.size)) (Nat.le_trans HB2.out.size (by omega)) h2, HY2.out.on hX, hX.size⟩)
  (fun x gg => { tmps := #[.func (.yield l) #[] #[], .pointer (some ⟨lB, 0, none⟩), .pointer (some ⟨yB, 0, none⟩), .slice (some ⟨gg, 0, none⟩) x.length x.length, undef, undef, .slice A n c, .func (.func 122) #[] #[.pointer (some ⟨lC, 0, none⟩)], .slice (some ⟨gg, 0, none⟩) x.length x.length, undef, undef, undef, undef, undef, undef, undef, undef, undef, undef, undef, undef, undef], defers := [] }) ?assign ?body ?done ?stop
 case assign =>
  intro l2 gg x X K hK
  gi_wp2
  exact hK
 case body =>
  rintro l2 hi pre x gg X hI hhi hgg hpx hrow
  have hxl : x.length ≤ 10000000000000 := by
   have hm : x ∈ chsL L := by obtain ⟨t, ht⟩ := hpx; rw [← ht]; simp
   have h1 := (mem_suf.1 hm).1
   rw [h1, dst_len]
   have := comp_len HC.out.1
   omega
  have hp := p_zparse x (some ⟨gg, 0, none⟩) x.length hxl X (HR.out hi _ X hI.1) hrow.sees0
  obtain ⟨us, hus⟩ : ∃ us, zV (parZ x) = us := ⟨_, rfl⟩
  obtain ⟨ev, hev⟩ : ∃ ev, parE x = ev := ⟨_, rfl⟩
  have HUL : Hid (us.length = zon0.length ∧ (∀ u ∈ us, u.oneCell' = true) ∧ (Tryz.prog.info? 44).map (·.size) = some us.length) := Lib.hid (by rw [← hus]; exact ⟨rfl, zV_one _, size_z⟩)
  rw [zn_val, hus, hev] at hp
  have HP := Lib.hid hp
  have HE := Lib.hid hev
  have HI := Lib.hid (show _ ∧ _ ∧ _ ∧ _ ∧ _ from ⟨hI, hhi, hgg, hpx, hrow⟩)
  have HO := Lib.hid (Own.start X)
  clear hxl hp hus hev hI hhi hgg hpx hrow
  gi_wp2_with (first
   | (refine ⟨trivial, ?_⟩; gi_at_call 28; refine (calls_round _ HP.out).mono ?_; rintro e w7 ⟨rfl, hb⟩; replace HO := Lib.hid (HO.out.on hb); clear hb)
   | ((with_reducible refine at_allocIn_ (d := 4) ?_); refine list_round (by rintro ⟨_, _, h⟩; exact h) _ _ _ (by kernel_rfl) ?_))
  go_wp2_with (first
   | ((with_reducible refine at_alloc_ (d := 4) ?_); refine wpList_alloc_v (op := ⟨some 4, _, _, _, _, _⟩) rfl 44 rfl zon0 info_z ?_; intro g4 v4a hf hr; replace HO := Lib.hid (HO.out.new hf hr); clear hf hr)
   | ((with_reducible refine at_store_ (i := 4) ?_); refine wpList_store_v rfl 44 (.tmp 4) (.tmp 12) rfl g4 zon0 us rfl rfl (HO.out.row (i := 0) rfl) HUL.out.1 HUL.out.2.1 HUL.out.2.2 ?_; intro v4s hw hr; replace HO := Lib.hid (HO.out.set (i := 0) rfl hw hr); clear hw hr))
  have hbX : Below X.heap.size X v4s := HO.out.bl
  have hrY : RowV v4s yB [.func (.yield l) #[] #[]] := HI.out.1.2.1.on hbX
  have hyc := hrY.cell 0
  simp only [List.getElem?_cons_zero] at hyc
  have HBX := Lib.hid hbX
  clear HO HUL HP hbX hrY
  by_cases h0 : ev = 0
  ·
   subst h0
   have hfl : (pre ++ [x]).filter (fun x => parE x == 0) = pre.filter (fun x => parE x == 0) ++ [x] := by
    rw [List.filter_append]
    congr 1
    simp [HE.out]
   have hj := HJ.out hi _ X v4s HI.out.1.1 (Turns.of_below HBX.out (Nat.le_trans HB2.out.size HI.out.1.2.2))
   have hpx : pre.filter (fun x => parE x == 0) ++ [x] <+: rdL L := by
    rw [← hfl]
    exact List.IsPrefix.filter _ HI.out.2.2.2.1
   have hyy := HY.out hi (pre.filter fun x => parE x == 0) x gg v4s hj (Nat.le_trans HB2.out.size (by have := HI.out.2.1; omega)) HI.out.2.2.1 hpx (HI.out.2.2.2.2.on HBX.out)
   have HFL := Lib.hid hfl
   have HPX := Lib.hid hpx
   clear hj hfl hpx
   obtain ⟨fn, tmps, assign, body, hy, hRn⟩ := hyy
   have HRN := Lib.hid hRn
   clear hRn
   gi_wp2
   refine (round_any _ HRN.out).mono ?_
   rintro e X4 ⟨hk4, h4⟩
   have hkk : Keeps W2.heap.size hi X X4 := (Keeps.of_below HBX.out).trans (hk4.mono HB2.out.size (Nat.le_refl _))
   have HK := Lib.hid (show _ ∧ _ from ⟨hk4, hkk⟩)
   clear hk4 hkk hy
   rcases h4 with ⟨rfl, h4⟩ | ⟨rfl, h4⟩
   · have H4 := Lib.hid h4
     clear h4
     gi_wp2
     exact ⟨HK.out.2, by rw [HFL.out]; exact H4.out, HI.out.1.2.1.same ((HK.out.1.2 yB HG.out.1 (by have := HG.out.2; have := HI.out.2.1; omega) (by have := HI.out.1.2.1.lt; have := HBX.out.size; omega)).trans (HBX.out.block yB HI.out.1.2.1.lt)), Nat.le_trans HI.out.1.2.2 HK.out.2.1⟩
   · have H4 := Lib.hid h4
     clear h4
     gi_wp2
     exact ⟨HK.out.2, _, HPX.out, H4.out⟩
  · have hfl : (pre ++ [x]).filter (fun x => parE x == 0) = pre.filter (fun x => parE x == 0) := by
     rw [List.filter_append]
     simp [HE.out, h0]
    have HFL := Lib.hid hfl
    have hj := HJ.out hi _ X v4s HI.out.1.1 (Turns.of_below HBX.out (Nat.le_trans HB2.out.size HI.out.1.2.2))
    have HJ4 := Lib.hid hj
    have hq : (ev == 0) = false := by simpa using h0
    clear hfl hj
    gi_wp2
    refine ⟨fun _ h => (by cases h), ?_⟩
    gi_wp2
    exact ⟨Keeps.of_below HBX.out, by rw [HFL.out]; exact HJ4.out, HI.out.1.2.1.on HBX.out, Nat.le_trans HI.out.1.2.2 HBX.out.size⟩
 case done =>
  rintro hi D X hD1 hD2 hI hK
  have HF := Lib.hid (HJ.out _ _ _ _ hI.1 (Turns.putObj (hi := hi) (.deferred none) (Nat.le_trans HB2.out.size hD1) hD2))
  have HH := Lib.hid (show W.heap.size ≤ hi from Nat.le_trans HB2.out.size (by omega))
  clear hI
  go_wp2
  refine ⟨by simp, .inl ⟨_, _, rfl, run_takeDeferred hK, ?_⟩⟩
  exact ⟨_, results_none rfl _ _ _, ⟨_, rfl⟩, hi, HH.out, .inl HF.out⟩
 case stop =>
  rintro hi D pre X hD1 hD2 hp hI hK
  obtain ⟨q, h1, h2⟩ := hI
  have HF := Lib.hid (show q <+: rdL L ∧ _ from ⟨h1, HJX.out _ _ _ _ h2 (Turns.putObj (hi := hi) (.deferred none) (Nat.le_trans HB2.out.size hD1) hD2)⟩)
  have HH := Lib.hid (show W.heap.size ≤ hi from Nat.le_trans HB2.out.size (by omega))
  clear h1 h2
  gi_wp2
  refine ⟨by simp, .inl ⟨_, _, rfl, run_takeDeferred hK, ?_⟩⟩
  exact ⟨_, results_none rfl _ _ _, ⟨_, rfl⟩, hi, HH.out, .inr ⟨q, HF.out.1, HF.out.2⟩⟩
end Go.Proofs.YtibahbkjjfmbgaaGreatDoor
namespace Go.Proofs.YtibahbkjjfmbgaaGreatDoor
open Go.RowKit Go.Shelf
set_option linter.unusedVariables false
attribute [local go_sem] Oper.semAt_some
theorem results_c2 {P : Program} {fn : Func} {p q : Tmp} {ty tz : TypeId} (h : fn.results = #[.cell p ty, .cell q tz]) (tmps : Array Value) (w : World) (g1 g2 : Nat) (v1 v2 : Value)
 (hp : tmps.getD p undef = .pointer (some ⟨g1, 0, none⟩)) (hq : tmps.getD q undef = .pointer (some ⟨g2, 0, none⟩)) (hc1 : w.cell? ⟨g1, 0, none⟩ = some v1) (hc2 : w.cell? ⟨g2, 0, none⟩ = some v2)
 (ha1 : ∀ w, (isAgg ty).run P w = .ok false w) (ha2 : ∀ w, (isAgg tz).run P w = .ok false w) : (results fn tmps).run P w = .ok (.tuple #[v1, v2]) w := by
 have hp' : tmps[p]?.getD undef = .pointer (some ⟨g1, 0, none⟩) := by simpa using hp
 have hq' : tmps[q]?.getD undef = .pointer (some ⟨g2, 0, none⟩) := by simpa using hq
 simp only [results, h]
 simp [Sem.run_bind, Result.andThen, hp', hq', asAddr, loadVar, ha1, ha2, hc1, hc2, go_sem]
theorem at_loadIn_ {F : Fence} {n : Nat} {P : Program} {ops : Array Oper} {Q : Exit → Act → World → Prop} {rest : List Oper} {a : Act} {w : World} {d : Nat} {x : Operand} {ty t : TypeId} {ps : String} {af : Array Edge} {gd : Option (Nat × Bool)} (h : wpListIn F n P ops Q (⟨some d, .load ty x, t, ps, af, gd⟩ :: rest) a w) : wpListIn F n P ops Q (⟨some d, .load ty x, t, ps, af, gd⟩ :: rest) a w := h
theorem at_storeIn_ {F : Fence} {n : Nat} {P : Program} {ops : Array Oper} {Q : Exit → Act → World → Prop} {rest : List Oper} {a : Act} {w : World} {i : Nat} {y : Operand} {ty t : TypeId} {ps : String} {af : Array Edge} {gd : Option (Nat × Bool)} (h : wpListIn F n P ops Q (⟨none, .store ty (.tmp i) y, t, ps, af, gd⟩ :: rest) a w) : wpListIn F n P ops Q (⟨none, .store ty (.tmp i) y, t, ps, af, gd⟩ :: rest) a w := h
theorem zero_ss : (Tryz.prog.info? 25).map (·.zero) = some (some nilS) := by kernel_rfl
theorem zero_er : (Tryz.prog.info? 28).map (·.zero) = some (some (.int .i64 0)) := by kernel_rfl
theorem size_ss : (Tryz.prog.info? 25).map (·.size) = some 1 := by kernel_rfl
theorem size_er : (Tryz.prog.info? 28).map (·.size) = some 1 := by kernel_rfl
def OnlP (L : List (List (List UInt8))) (w : World) (e : Ending) (w' : World) : Prop := ∃ A', e = .returned (.tuple #[.slice A' (onlL L).length (onlL L).length, .int .i64 (onlE L)]) ∧ StrsM w w' A' (onlL L) ∧ Below w.heap.size w w'
theorem wanted_none {ops : Array Oper} {o : Oper} {a : Act} (h : o.guard = none) : Region.wanted o (yielded ops a.tmps) = true := by unfold Region.wanted; rw [h]
theorem step_round {P : Program} {l n : Nat} {ops : Array Oper} {Q : Exit → Act → World → Prop} {rest : List Oper} {o : Oper} {a : Act} {w : World} (hg : o.guard = none) (hd : noDefer o = true) (h : ∀ K : Act → World → Prop, (∀ a w, wpListIn (Fence.wide.inRound l) n P ops Q rest a w → K a w) → o.wp P a w K Q) : wpListIn (Fence.wide.inRound l) n P ops Q (o :: rest) a w := by
 unfold wpListIn
 rw [if_pos (wanted_none hg)]
 refine op_round (fun c e => ?_) (h _ fun _ _ h => h)
 unfold noDefer at hd
 rw [e] at hd
 cases hd
theorem Wr.keeps {lo hi g : Nat} {X Y : World} (hw : Wr X Y g) (h : g < lo ∨ hi ≤ g) : Keeps lo hi X Y := ⟨by rw [hw.2.2.2.1]; exact Nat.le_refl _, fun q h1 h2 _ => hw.2.2.2.2 q (by omega)⟩
theorem neq_nil (w : World) : (binOp .neq 25 (.slice none 0 0) (.slice none 0 0)).run Tryz.prog w = .ok (.bool false) w := by kernel_rfl
theorem neq_some (g n : Nat) (w : World) : (binOp .neq 25 (.slice (some ⟨g, 0, none⟩) n n) (.slice none 0 0)).run Tryz.prog w = .ok (.bool true) w := by kernel_rfl
theorem eql_nil (w : World) : (binOp .eql 25 (.slice none 0 0) (.slice none 0 0)).run Tryz.prog w = .ok (.bool true) w := by kernel_rfl
theorem eql_some (g n : Nat) (w : World) : (binOp .eql 25 (.slice (some ⟨g, 0, none⟩) n n) (.slice none 0 0)).run Tryz.prog w = .ok (.bool false) w := by kernel_rfl
structure OnI (w : World) (g2 g3 g6 hi : Nat) (pre : List (List (List UInt8))) (X : World) : Prop where
 le : pre.length ≤ 1
 r2 : RowV X g2 [nilS]
 r3 : RowV X g3 [Value.int .i64 0]
 r0 : pre = [] → RowV X g6 [nilS]
 r1 : ∀ x, pre = [x] → ∃ gg, hi ≤ gg ∧ RowV X g6 [Value.slice (some ⟨gg, 0, none⟩) x.length x.length] ∧ RowV X gg (strV x)
 bl : Below w.heap.size w X
structure OnX (w : World) (g2 g3 hi : Nat) (pre : List (List (List UInt8))) (X : World) : Prop where
 le : 2 ≤ pre.length
 r2 : RowV X g2 [nilS]
 r3 : RowV X g3 [Value.int .i64 25]
 bl : Below w.heap.size w X
theorem RowV.turns {lo hi g : Nat} {vs : List Value} {X Y : World} (h : RowV X g vs) (ht : Turns lo hi X Y) (hg : g < lo ∨ hi ≤ g) : RowV Y g vs := by
 rcases hg with hg | hg
 · exact h.same (ht.1.block g hg)
 · exact h.same (ht.2 g hg h.lt)
theorem OnI.turns {w : World} {g2 g3 g6 hi lo : Nat} {pre : List (List (List UInt8))} {X Y : World} (h : OnI w g2 g3 g6 hi pre X) (h2 : g2 < lo) (h3 : g3 < lo) (h6 : g6 < lo) (hw : w.heap.size ≤ lo) (ht : Turns lo hi X Y) : OnI w g2 g3 g6 hi pre Y :=
 ⟨h.le, h.r2.turns ht (.inl h2), h.r3.turns ht (.inl h3), fun e => (h.r0 e).turns ht (.inl h6), fun x e => by obtain ⟨gg, h1, h4, h5⟩ := h.r1 x e; exact ⟨gg, h1, h4.turns ht (.inl h6), h5.turns ht (.inr h1)⟩, h.bl.trans (ht.1.mono hw)⟩
theorem OnX.turns {w : World} {g2 g3 hi lo : Nat} {pre : List (List (List UInt8))} {X Y : World} (h : OnX w g2 g3 hi pre X) (h2 : g2 < lo) (h3 : g3 < lo) (hw : w.heap.size ≤ lo) (ht : Turns lo hi X Y) : OnX w g2 g3 hi pre Y :=
 ⟨h.le, h.r2.turns ht (.inl h2), h.r3.turns ht (.inl h3), h.bl.trans (ht.1.mono hw)⟩
set_option maxRecDepth 100000 in
set_option maxHeartbeats 2000000 in
theorem p_only (L : List (List (List UInt8))) (hf : Fits3 L) (A : Option Addr) (n c : Nat) (hn : L.length = n) (w : World) (hM : Mm w) (hs : Rdg w A L) : Calls Tryz.prog 22 #[.slice A n c] w (OnlP L w) := by
 have hc := fun w hs => p_count L A n c hn hf w hs
 have HS := Lib.hid hs
 have HM := Lib.hid hM
 have HN := Lib.hid (show _ ∧ _ from ⟨hn, hf⟩)
 obtain ⟨cv, hcv⟩ : ∃ cv, cntV L = cv := ⟨_, rfl⟩
 obtain ⟨ce, hce⟩ : ∃ ce, cntE L = ce := ⟨_, rfl⟩
 rw [hcv, hce] at hc
 have HC := Lib.hid hc
 have HE := Lib.hid hce
 have HO := Lib.hid (Own.start w)
 clear hs hM hn hf hcv hce hc
 refine (callsIn_wide (n := 9)).1 ?_
 refine callsIn_of_wp_marks Tryz.func22 rfl trivial ?_ rfl
 simp only [Tryz.ntmps22, List.size_toArray, List.length_cons, List.length_nil, Nat.reduceAdd, Nat.reduceSub, Array.replicate_succ, Array.replicate_zero, List.push_toArray, List.append_toArray, List.nil_append, List.cons_append]
 refine wpIn_wide.2 ?_
 by_cases h0 : ce = 0
 ·
  subst h0
  go_wp2_with (first
   | ((with_reducible refine at_alloc_ (d := 2) ?_); refine wpList_alloc_1 (op := ⟨some 2, _, _, _, _, _⟩) rfl _ rfl nilS zero_ss rfl ?_; intro g2 v2a hf hr; replace HO := Lib.hid (HO.out.new hf hr); clear hf hr)
   | ((with_reducible refine at_alloc_ (d := 3) ?_); refine wpList_alloc_1 (op := ⟨some 3, _, _, _, _, _⟩) rfl _ rfl (.int .i64 0) zero_er rfl ?_; intro g3 v3a hf hr; replace HO := Lib.hid (HO.out.new hf hr); clear hf hr)
   | (go_at_call 31; ((with_reducible refine (HC.out _ (HS.out.on HO.out.bl)).mono ?_); rintro e w5 ⟨rfl, hb⟩); replace HO := Lib.hid (HO.out.on hb); clear hb)
   | ((with_reducible refine at_alloc_ (d := 6) ?_); refine wpList_alloc_1 (op := ⟨some 6, _, _, _, _, _⟩) rfl _ rfl nilS zero_ss rfl ?_; intro g6 v6a hf hr; replace HO := Lib.hid (HO.out.new hf hr); clear hf hr)
   | (go_at_call 50; ((with_reducible refine (p_readings0 _ _ _ _).mono ?_); rintro e w' ⟨rfl, rfl⟩); replace HO := Lib.hid (HO.out.newAt #[.slice A n c] 27)))
  replace HO : Hid (Own w _ [(g2, [nilS]), (g3, [Value.int .i64 0]), (g6, [nilS]), (v6a.heap.size, [Value.slice A n c])]) := HO
  obtain ⟨lR, hlR⟩ : ∃ lR, v6a.heap.size = lR := ⟨_, rfl⟩
  obtain ⟨W2, hW2⟩ : ∃ W2, v6a.alloc (Obj.cells #[Value.slice A n c] 27) = W2 := ⟨_, rfl⟩
  rw [hlR, hW2] at HO
  rw [hlR, hW2]
  clear hlR hW2
  have hcp : cmplL L = true := by
   have := HE.out
   unfold cntE at this
   by_cases h : cmplL L = false
   · rw [if_pos h] at this; cases this
   · simpa using h
  have HQ := Lib.hid (rd_seq L hcp HN.out.2 A n c lR HN.out.1 W2 (by have := (HO.out.row (i := 3) rfl).cell 0; simpa using this) (HS.out.on HO.out.bl))
  have HCP := Lib.hid hcp
  have HL := Lib.hid (show g2 < W2.heap.size ∧ g3 < W2.heap.size ∧ g6 < W2.heap.size ∧ g2 ≠ g3 ∧ g2 ≠ g6 ∧ g3 ≠ g6 from ⟨(HO.out.row (i := 0) rfl).lt, (HO.out.row (i := 1) rfl).lt, (HO.out.row (i := 2) rfl).lt, HO.out.2.2 0 1 _ _ _ _ rfl rfl (by decide), HO.out.2.2 0 2 _ _ _ _ rfl rfl (by decide), HO.out.2.2 1 2 _ _ _ _ rfl rfl (by decide)⟩)
  have HBW := Lib.hid HO.out.bl
  have HGE := Lib.hid (show w.heap.size ≤ g2 ∧ w.heap.size ≤ g3 ∧ w.heap.size ≤ g6 from ⟨HO.out.ge (i := 0) rfl, HO.out.ge (i := 1) rfl, HO.out.ge (i := 2) rfl⟩)
  clear hcp
  refine wpIn_wide.1 (?_ : Code.wpIn Fence.wide 9 _ _ _ _ _)
  refine range_x HQ.out (Below.refl _ _) (gf := 83) (lb := #[.pointer (some ⟨lR, 0, none⟩)]) rfl (enters_of Tryz.func83 (by kernel_rfl) rfl) rfl
   (OnI w g2 g3 g6) (OnX w g2 g3)
   (fun hi s X Y h hh ht => h.turns (by have := HL.out; omega) (by have := HL.out; omega) (by have := HL.out; omega) HBW.out.size ht)
   (fun hi s X Y h hh ht => h.turns (by have := HL.out; omega) (by have := HL.out; omega) HBW.out.size ht)
   (fun hi s X h => HM.out.on h.bl)
   (fun hi X hX h1 h2 => ⟨by simp, (HO.out.row (i := 0) rfl).on hX, (HO.out.row (i := 1) rfl).on hX, fun _ => (HO.out.row (i := 2) rfl).on hX, fun x hx => (by cases hx), HBW.out.trans (hX.mono HBW.out.size)⟩)
   (fun x gg => { tmps := #[.slice A n c, undef, .pointer (some ⟨g2, 0, none⟩), .pointer (some ⟨g3, 0, none⟩), .int .i64 (cv : Int), .int .i64 0, .pointer (some ⟨g6, 0, none⟩), .slice (some ⟨gg, 0, none⟩) x.length x.length, .tuple #[.int .i64 (cv : Int), .int .i64 0], .slice A n c, .tuple #[.int .i64 (cv : Int), .int .i64 0], .int .i64 (cv : Int), .int .i64 0, .int .i64 0, .bool false, undef, .slice A n c, .func (.func 83) #[] #[.pointer (some ⟨lR, 0, none⟩)], .slice (some ⟨gg, 0, none⟩) x.length x.length, undef, undef, undef, undef, undef, undef], defers := [] }) ?assign ?body ?done ?stop
  case assign =>
   intro l2 gg x X K hK
   gi_wp2
   exact hK
  case body =>
   rintro l2 hi pre x gg X hI hhi hgg hpx hrow
   have HI := Lib.hid (show _ ∧ _ ∧ _ ∧ _ from ⟨hI, hhi, hgg, hrow⟩)
   rcases pre with _ | ⟨y, pre⟩
   · have HR6 := Lib.hid (hI.r0 rfl)
     have hnn := neq_nil
     clear hI hhi hgg hpx hrow
     gi_wp2_with (first
      | ((with_reducible refine at_loadIn_ (d := 19) ?_); refine step_round rfl rfl (fun K hK => ?_); refine o_ld (o := ⟨some 19, _, _, _, _, _⟩) _ _ rfl (g := g6) (k := 0) rfl (v := .slice none 0 0) (HR6.out.cell 0) (fun w => by kernel_rfl) ?_; refine hK _ _ ?_; clear hK K)
      | ((with_reducible refine at_storeIn_ (i := 6) ?_); refine step_round rfl rfl (fun K hK => ?_); refine wp_store_at _ (.tmp 6) _ rfl g6 0 [nilS] (.slice (some ⟨gg, 0, none⟩) x.length x.length) rfl rfl (HR6.out) (by decide) rfl rfl size_ss ?_; intro v6s hw hr; have HW := Lib.hid (show _ ∧ _ from ⟨hw, hr⟩); refine hK _ _ ?_; clear hK K hw hr))
     exact ⟨HW.out.1.keeps (.inl HL.out.2.2.1), by simp, HI.out.1.r2.wr HW.out.1 HL.out.2.2.2.2.1, HI.out.1.r3.wr HW.out.1 HL.out.2.2.2.2.2, fun e => (by cases e), fun x' e => (by
      injection e with e _
      subst e
      exact ⟨gg, HI.out.2.2.1, HW.out.2, HI.out.2.2.2.wr HW.out.1 (by have := HL.out.2.2.1; have := HI.out.2.1; have := HI.out.2.2.1; omega)⟩), Wr.bl HI.out.1.bl HW.out.1 HGE.out.2.2⟩
   ·
    obtain rfl : pre = [] := by
     have h1 := hI.le
     rw [List.length_cons] at h1
     exact List.eq_nil_of_length_eq_zero (by omega)
    obtain ⟨gy, _, hr6, _⟩ := hI.r1 y rfl
    have HR6 := Lib.hid hr6
    obtain ⟨yl, hyl⟩ : ∃ yl, y.length = yl := ⟨_, rfl⟩
    rw [hyl] at HR6
    have hns := neq_some gy yl
    clear hI hhi hgg hpx hrow hr6 hyl
    gi_wp2_with (first
     | ((with_reducible refine at_loadIn_ (d := 19) ?_); refine step_round rfl rfl (fun K hK => ?_); refine o_ld (o := ⟨some 19, _, _, _, _, _⟩) _ _ rfl (g := g6) (k := 0) rfl (v := .slice (some ⟨gy, 0, none⟩) yl yl) (HR6.out.cell 0) (fun w => by kernel_rfl) ?_; refine hK _ _ ?_; clear hK K)
     | ((with_reducible refine at_storeIn_ (i := 2) ?_); refine step_round rfl rfl (fun K hK => ?_); refine wp_store_at _ (.tmp 2) _ rfl g2 0 [nilS] (nilS) rfl rfl (HI.out.1.r2) (by decide) rfl rfl size_ss ?_; intro v2s hw hr; have HW := Lib.hid (show _ ∧ _ from ⟨hw, hr⟩); refine hK _ _ ?_; clear hK K hw hr)
     | ((with_reducible refine at_storeIn_ (i := 3) ?_); refine step_round rfl rfl (fun K hK => ?_); refine wp_store_at _ (.tmp 3) _ rfl g3 0 [.int .i64 0] (.int .i64 25) rfl rfl (HI.out.1.r3.wr HW.out.1 HL.out.2.2.2.1.symm) (by decide) rfl rfl size_er ?_; intro v3s hw hr; have HV := Lib.hid (show _ ∧ _ from ⟨hw, hr⟩); refine hK _ _ ?_; clear hK K hw hr))
    exact ⟨(HW.out.1.keeps (.inl HL.out.1)).trans (HV.out.1.keeps (.inl HL.out.2.1)), by simp, HW.out.2.wr HV.out.1 HL.out.2.2.2.1, HV.out.2, Wr.bl (Wr.bl HI.out.1.bl HW.out.1 HGE.out.1) HV.out.1 HGE.out.2.1⟩
  case done =>
   rintro hi D X hD1 hD2 hI hK
   have HI := Lib.hid (show _ ∧ _ ∧ _ from ⟨hI, hD1, hD2⟩)
   have HK := Lib.hid hK
   clear hI hK hD1 hD2
   rcases hrd : rdL L with _ | ⟨x, _ | ⟨x2, t⟩⟩
   ·
    have HE1 := Lib.hid (show onlE L = 16 by unfold onlE; rw [if_neg (by rw [HE.out]; decide), hrd]; rfl)
    have HE2 := Lib.hid (show onlL L = [] by unfold onlL; rw [HE1.out]; rfl)
    have HR6 := Lib.hid (HI.out.1.r0 hrd)
    have hen := eql_nil
    clear hrd
    go_wp2_with (first
     | ((with_reducible refine at_load_ (d := 22) ?_); refine wpList_load_c rfl _ _ rfl g6 0 rfl (.slice none 0 0) (HR6.out.cell 0) (fun w => by kernel_rfl) ?_)
     | ((with_reducible refine at_store_ (i := 2) ?_); refine wpList_store_at rfl _ (.tmp 2) _ rfl g2 0 [nilS] (nilS) rfl rfl (HI.out.1.r2) (by decide) rfl rfl size_ss ?_; intro v2s hw hr; have HW := Lib.hid (show _ ∧ _ from ⟨hw, hr⟩); clear hw hr)
     | ((with_reducible refine at_store_ (i := 3) ?_); refine wpList_store_at rfl _ (.tmp 3) _ rfl g3 0 [.int .i64 0] (.int .i64 16) rfl rfl (HI.out.1.r3.wr HW.out.1 HL.out.2.2.2.1.symm) (by decide) rfl rfl size_er ?_; intro v3s hw hr; have HV := Lib.hid (show _ ∧ _ from ⟨hw, hr⟩); clear hw hr))
    have hk := ((HV.out.1.2.2.2.2 D (by have := HI.out.2.1; have := HL.out.2.1; omega)).trans (HW.out.1.2.2.2.2 D (by have := HI.out.2.1; have := HL.out.1; omega))).trans HK.out
    have p2 := (HW.out.2.wr HV.out.1 HL.out.2.2.2.1).same (World.putObj_heap_other (o := .deferred none) (show g2 ≠ D by have := HI.out.2.1; have := HL.out.1; omega))
    have p3 := HV.out.2.same (World.putObj_heap_other (o := .deferred none) (show g3 ≠ D by have := HI.out.2.1; have := HL.out.2.1; omega))
    have pb := (Wr.bl (Wr.bl HI.out.1.bl HW.out.1 HGE.out.1) HV.out.1 HGE.out.2.1).trans (Turns.putObj (X := v3s) (lo := w.heap.size) (hi := D + 1) (.deferred none) (Nat.le_trans HBW.out.size HI.out.2.1) (by omega)).1
    refine ⟨by simp, .inl ⟨_, _, rfl, run_takeDeferred hk, ?_⟩⟩
    exact ⟨_, results_c2 rfl _ _ g2 g3 nilS (.int .i64 16) rfl rfl (p2.cell 0) (p3.cell 0) (fun w => by kernel_rfl) (fun w => by kernel_rfl), none, by rw [HE1.out, HE2.out]; rfl, by rw [HE2.out]; exact ⟨.inl rfl, .inl rfl⟩, pb⟩
   ·
    have HE1 := Lib.hid (show onlE L = 0 by unfold onlE; rw [if_neg (by rw [HE.out]; decide), hrd]; rfl)
    have HE2 := Lib.hid (show onlL L = x by unfold onlL; rw [HE1.out, hrd]; rfl)
    obtain ⟨gg, hgg, hr6, hrow⟩ := HI.out.1.r1 x hrd
    have HR6 := Lib.hid (show _ ∧ _ ∧ _ from ⟨hr6, hgg, hrow⟩)
    have hes := eql_some gg x.length
    clear hrd hgg hr6 hrow
    go_wp2_with (first
     | ((with_reducible refine at_load_ (d := 22) ?_); refine wpList_load_c rfl _ _ rfl g6 0 rfl (.slice (some ⟨gg, 0, none⟩) x.length x.length) (HR6.out.1.cell 0) (fun w => by kernel_rfl) ?_)
     | ((with_reducible refine at_load_ (d := 24) ?_); refine wpList_load_c rfl _ _ rfl g6 0 rfl (.slice (some ⟨gg, 0, none⟩) x.length x.length) (HR6.out.1.cell 0) (fun w => by kernel_rfl) ?_)
     | ((with_reducible refine at_store_ (i := 2) ?_); refine wpList_store_at rfl _ (.tmp 2) _ rfl g2 0 [nilS] (.slice (some ⟨gg, 0, none⟩) x.length x.length) rfl rfl (HI.out.1.r2) (by decide) rfl rfl size_ss ?_; intro v2s hw hr; have HW := Lib.hid (show _ ∧ _ from ⟨hw, hr⟩); clear hw hr)
     | ((with_reducible refine at_store_ (i := 3) ?_); refine wpList_store_at rfl _ (.tmp 3) _ rfl g3 0 [.int .i64 0] (.int .i64 0) rfl rfl (HI.out.1.r3.wr HW.out.1 HL.out.2.2.2.1.symm) (by decide) rfl rfl size_er ?_; intro v3s hw hr; have HV := Lib.hid (show _ ∧ _ from ⟨hw, hr⟩); clear hw hr))
    have hk := ((HV.out.1.2.2.2.2 D (by have := HI.out.2.1; have := HL.out.2.1; omega)).trans (HW.out.1.2.2.2.2 D (by have := HI.out.2.1; have := HL.out.1; omega))).trans HK.out
    have p2 := (HW.out.2.wr HV.out.1 HL.out.2.2.2.1).same (World.putObj_heap_other (o := .deferred none) (show g2 ≠ D by have := HI.out.2.1; have := HL.out.1; omega))
    have p3 := HV.out.2.same (World.putObj_heap_other (o := .deferred none) (show g3 ≠ D by have := HI.out.2.1; have := HL.out.2.1; omega))
    have pb := (Wr.bl (Wr.bl HI.out.1.bl HW.out.1 HGE.out.1) HV.out.1 HGE.out.2.1).trans (Turns.putObj (X := v3s) (lo := w.heap.size) (hi := D + 1) (.deferred none) (Nat.le_trans HBW.out.size HI.out.2.1) (by omega)).1
    have pg := ((HR6.out.2.2.wr HW.out.1 (by have := HI.out.2.1; have := HI.out.2.2; have := HR6.out.2.1; have := HL.out.1; omega)).wr HV.out.1 (by have := HI.out.2.1; have := HI.out.2.2; have := HR6.out.2.1; have := HL.out.2.1; omega)).same (World.putObj_heap_other (o := .deferred none) (show gg ≠ D by have := HI.out.2.2; have := HR6.out.2.1; omega))
    have pw : w.heap.size ≤ gg := by have := HI.out.2.1; have := HI.out.2.2; have := HR6.out.2.1; have := HBW.out.size; omega
    refine ⟨by simp, .inl ⟨_, _, rfl, run_takeDeferred hk, ?_⟩⟩
    exact ⟨_, results_c2 rfl _ _ g2 g3 (.slice (some ⟨gg, 0, none⟩) x.length x.length) (.int .i64 0) rfl rfl (p2.cell 0) (p3.cell 0) (fun w => by kernel_rfl) (fun w => by kernel_rfl), some ⟨gg, 0, none⟩, by rw [HE1.out, HE2.out], by rw [HE2.out]; exact ⟨pg.sees0, .inr ⟨gg, rfl, pw, pg⟩⟩, pb⟩
   · have := HI.out.1.le
     rw [hrd] at this
     simp at this
  case stop =>
   rintro hi D pre X hD1 hD2 hp hI hK
   have hl : 2 ≤ (rdL L).length := Nat.le_trans hI.le hp.length_le
   have HE1 := Lib.hid (show onlE L = 25 by unfold onlE; rw [if_neg (by rw [HE.out]; decide), if_neg (by omega), if_neg (by omega)])
   have HE2 := Lib.hid (show onlL L = [] by unfold onlL; rw [HE1.out]; rfl)
   have ht := hI.turns HL.out.1 HL.out.2.1 HBW.out.size (Turns.putObj (lo := W2.heap.size) (hi := hi) (.deferred none) hD1 hD2)
   have HT := Lib.hid ht
   clear hl ht hI hp
   gi_wp2
   refine ⟨by simp, .inl ⟨_, _, rfl, run_takeDeferred hK, ?_⟩⟩
   exact ⟨_, results_c2 rfl _ _ g2 g3 nilS (.int .i64 25) rfl rfl (HT.out.r2.cell 0) (HT.out.r3.cell 0) (fun w => by kernel_rfl) (fun w => by kernel_rfl), none, by rw [HE1.out, HE2.out]; rfl, by rw [HE2.out]; exact ⟨.inl rfl, .inl rfl⟩, HT.out.bl⟩
 · have HE1 := Lib.hid (show onlE L = ce by unfold onlE; rw [if_pos (by rw [HE.out]; exact h0), HE.out])
   have HE2 := Lib.hid (show onlL L = [] by unfold onlL; rw [HE1.out, if_neg h0])
   go_wp2_with (first
    | ((with_reducible refine at_alloc_ (d := 2) ?_); refine wpList_alloc_1 (op := ⟨some 2, _, _, _, _, _⟩) rfl _ rfl nilS zero_ss rfl ?_; intro g2 v2a hf hr; replace HO := Lib.hid (HO.out.new hf hr); clear hf hr)
    | ((with_reducible refine at_alloc_ (d := 3) ?_); refine wpList_alloc_1 (op := ⟨some 3, _, _, _, _, _⟩) rfl _ rfl (.int .i64 0) zero_er rfl ?_; intro g3 v3a hf hr; replace HO := Lib.hid (HO.out.new hf hr); clear hf hr)
    | (go_at_call 31; ((with_reducible refine (HC.out _ (HS.out.on HO.out.bl)).mono ?_); rintro e w5 ⟨rfl, hb⟩); replace HO := Lib.hid (HO.out.on hb); clear hb)
    | ((with_reducible refine at_store_ (i := 2) ?_); refine wpList_store_at rfl _ (.tmp 2) _ rfl g2 0 [nilS] nilS rfl rfl (HO.out.row (i := 0) rfl) (by decide) rfl rfl size_ss ?_; intro v2s hw hr; replace HO := Lib.hid (HO.out.set (i := 0) rfl hw hr); clear hw hr)
    | ((with_reducible refine at_store_ (i := 3) ?_); refine wpList_store_at rfl _ (.tmp 3) _ rfl g3 0 [.int .i64 0] (.int .i64 ce) rfl rfl (HO.out.row (i := 1) rfl) (by decide) rfl rfl size_er ?_; intro v3s hw hr; replace HO := Lib.hid (HO.out.set (i := 1) rfl hw hr); clear hw hr))
   exact ⟨_, results_c2 rfl _ _ g2 g3 nilS (.int .i64 ce) rfl rfl ((HO.out.row (i := 0) rfl).cell 0) ((HO.out.row (i := 1) rfl).cell 0) (fun w => by kernel_rfl) (fun w => by kernel_rfl), none, by rw [HE1.out, HE2.out]; rfl, by rw [HE2.out]; exact ⟨.inl rfl, .inl rfl⟩, HO.out.bl⟩
end Go.Proofs.YtibahbkjjfmbgaaGreatDoor
