/-
  What is proved here: plain facts: the lines of a valid zone stand for the zone, but for names that do not fit.
  And: plain facts for the walk of the reference's Parse, whatever the format: what its texts are by the fields of the lines; answers by causes.
  And: a region that draws its order, as in the texts Rs and Os, where operations also name later ones in edges that bind no order of the model. Nothing of the program is used.
  And: a zone by value equals itself.
-/
import Derived.Test.YtdlcoilpkelbaaaGreatDoorY11
import Derived.Test.YtdlcoilpkelbaaaGreatDoorY14
import Derived.Test.YtdlcoilpkelbaaaGreatDoorY15
import Derived.Test.YtdlcoilpkelbaaaGreatDoorOs
import Derived.Test.YtdlcoilpkelbaaaGreatDoorY9
import Derived.Laws.StructEq
namespace Go.Proofs.YtdlcoilpkelbaaaGreatDoor
open Go.RowKit Go.Maps
set_option linter.unusedVariables false

/-! ## where the fields are -/
/-- where a field is in a line: how much lies ahead of it, and its size -/
def posF : List (Nat × Nat) → Nat → Option (Nat × Nat)
  | [], _ => none
  | p :: r, k => if p.1 = k then some (0, p.2) else match posF r k with
    | none => none
    | some q => some (p.2 + q.1, q.2)
theorem drop_len {α : Type} (a l : List α) (o : Nat) : (a ++ l).drop (a.length + o) = l.drop o := by simp [List.drop_append]
theorem seg_pos (T : Nat → List UInt8) (k : Nat) : ∀ (sg : List (Nat × Nat)) (o s : Nat), posF sg k = some (o, s) → ((lineT sg T).drop o).take s = padT s (T k)
  | [], o, s, h => by cases h
  | p :: r, o, s, h => by
    rw [lineT_cons]
    unfold posF at h
    split at h
    · rename_i e
      injection h with h
      injection h with h1 h2
      subst h1 h2
      rw [List.drop_zero, List.take_left' (padT_len _ _), e]
    · rcases hq : posF r k with _ | ⟨o', s'⟩
      · rw [hq] at h; cases h
      · rw [hq] at h
        injection h with h
        injection h with h1 h2
        subst h1 h2
        have e : p.2 = (padT p.2 (T p.1)).length := (padT_len _ _).symm
        show List.take s' (List.drop (p.2 + o') _) = _
        rw [show p.2 + o' = (padT p.2 (T p.1)).length + o' by rw [padT_len], drop_len]
        exact seg_pos T k r o' s' hq
theorem fd_lines {f : Int} (hf : 1 ≤ f ∧ f ≤ 3) (T : Nat → List UInt8) (k : Nat) (hk : k < 15) : fd f (linesT f T) k = padT (sizN f k) (T k) := by
  have hp : sizN f k = 0 ∨ ((plc f k).1 < cntN f ∧ posF (segs f (plc f k).1) k = some ((plc f k).2.1, sizN f k)) := by
    have h : f = 1 ∨ f = 2 ∨ f = 3 := by omega
    rcases h with rfl | rfl | rfl
    · have : ∀ k : _root_.Fin 15, sizN 1 k.val = 0 ∨ ((plc 1 k.val).1 < cntN 1 ∧ posF (segs 1 (plc 1 k.val).1) k.val = some ((plc 1 k.val).2.1, sizN 1 k.val)) := by decide
      exact this ⟨k, hk⟩
    · have : ∀ k : _root_.Fin 15, sizN 2 k.val = 0 ∨ ((plc 2 k.val).1 < cntN 2 ∧ posF (segs 2 (plc 2 k.val).1) k.val = some ((plc 2 k.val).2.1, sizN 2 k.val)) := by decide
      exact this ⟨k, hk⟩
    · have : ∀ k : _root_.Fin 15, sizN 3 k.val = 0 ∨ ((plc 3 k.val).1 < cntN 3 ∧ posF (segs 3 (plc 3 k.val).1) k.val = some ((plc 3 k.val).2.1, sizN 3 k.val)) := by decide
      exact this ⟨k, hk⟩
  show ((((linesT f T).getD (plc f k).1 []).drop (plc f k).2.1).take (sizN f k)) = _
  rcases hp with h | ⟨h1, h2⟩
  · rw [h]; simp [padT]
  · rw [linesT_get f T h1]
    exact seg_pos T k _ _ _ h2

/-! ## fillers -/
theorem trim_rep {x : List UInt8} (h : x = [] ∨ cB x (x.length - 1) ≠ 60) (m : Nat) : trimT (x ++ List.replicate m 60) = x := by
  rw [trim_uniq (x := x ++ List.replicate m 60) (k := x.length) (by rw [List.length_append]; omega) (fun j h1 h2 => by
    rw [cB_app_r h1]
    rw [List.length_append, List.length_replicate] at h2
    exact cB_rep (by omega)) (fun h0 => by
    rw [cB_app_l (by omega)]
    exact h.resolve_left fun e => by rw [e] at h0; exact absurd h0 (by decide)), List.take_left' rfl]
theorem trim_pad {x : List UInt8} {n : Nat} (hl : x.length ≤ n) (h : x = [] ∨ cB x (x.length - 1) ≠ 60) : trimT (padT n x) = x := by
  rw [padT_fit hl]; exact trim_rep h _
theorem code_last {x : List UInt8} {n : Nat} (h : codeB x n = true) : x = [] ∨ cB x (x.length - 1) ≠ 60 := by
  unfold codeB at h
  simp only [Bool.and_eq_true, decide_eq_true_eq] at h
  obtain ⟨h1, h2⟩ := h
  have h3 := ltr_bd (of_decide_eq_true h2 (x.length - 1) (by omega))
  exact .inr (by omega)
theorem num_fill {x : List UInt8} (h : plainB x = true) : noFill x = true ∧ validL x = true := by
  unfold plainB at h
  simpa only [Bool.and_eq_true] using h
theorem num_last {x : List UInt8} (h : noFill x = true) : x = [] ∨ cB x (x.length - 1) ≠ 60 := by
  rcases hx : x with _ | ⟨a, r⟩
  · exact .inl rfl
  · rw [← hx]
    exact .inr (of_decide_eq_true h (x.length - 1) (by rw [hx]; simp))
theorem extra_last {x : List UInt8} (h : extraB x = true) : x = [] ∨ cB x (x.length - 1) ≠ 60 := by
  unfold extraB at h
  simp only [Bool.and_eq_true, decide_eq_true_eq] at h
  exact h.2.imp id (·.2)
theorem fill_take {x : List UInt8} (h : noFill x = true) (n : Nat) : noFill (x.take n) = true := by
  unfold noFill at h ⊢
  rw [decide_eq_true_eq] at h ⊢
  intro i hi
  rw [List.length_take] at hi
  rw [cB_take (by omega)]
  exact h i (by omega)
theorem fill_mem {x : List UInt8} (h : noFill x = true) : ∀ b ∈ x, b ≠ 60 := by
  intro b hb e
  obtain ⟨i, hi, e2⟩ := List.mem_iff_getElem.1 hb
  have := of_decide_eq_true h i hi
  rw [cB_get hi, e2, e] at this
  exact this rfl
theorem dg_form {x : List UInt8} (h : validL x = true) : ∃ c : UInt8, dgL x = [c] ∧ 48 ≤ c.toNat ∧ c.toNat ≤ 57 := by
  refine ⟨_, by unfold dgL; rw [if_pos h], ?_⟩
  have h1 := Int.emod_nonneg (sumL x x.length) (show (10 : Int) ≠ 0 by decide)
  have h2 := Int.emod_lt_of_pos (sumL x x.length) (show (0 : Int) < 10 by decide)
  have h3 : (48 + sumL x x.length % 10).toNat < 256 := by omega
  rw [UInt8.toNat_ofNat', Nat.mod_eq_of_lt h3]
  omega
theorem dg_ne {x : List UInt8} (h : validL x = true) : dgL x ≠ [60] := by
  obtain ⟨c, e, h1, h2⟩ := dg_form h
  rw [e]
  intro he
  injection he with he
  rw [he] at h2
  exact absurd h2 (by decide)
/-- the first filler stands behind what has none -/
theorem kf_app : ∀ (a b : List UInt8), (∀ x ∈ a, x ≠ 60) → kf (a ++ 60 :: b) = a.length
  | [], b, _ => rfl
  | x :: a, b, h => by
    have h1 := kf_app a b fun y hy => h y (List.mem_cons_of_mem _ hy)
    unfold kf at h1 ⊢
    rw [List.cons_append, List.takeWhile_cons_of_pos (by simpa using h x (List.mem_cons_self ..)), List.length_cons, h1, List.length_cons]

/-! ## what stands in the lines of a valid zone -/
section
variable {z : Zn}
theorem bk_lines (hz : vE z = 0) : LinesOf z.fm (buildT z) := by
  have h1 := (vE_ok hz).1
  refine ⟨linesT_len _ _, fun j hj => ?_⟩
  unfold buildT
  rw [linesT_get _ _ hj, lineT_len, seg_sum h1 hj]
theorem bk_shape (hz : vE z = 0) : shapeL (buildT z) = z.fm := (shape_of (vE_ok hz).1).1 (bk_lines hz)
theorem val_pad {x : List UInt8} (h : validL x = true) (n : Nat) : validL (padT n x) = true := by
  unfold padT
  rw [valid_fill]
  exact val_sub h fun b hb => List.mem_of_mem_take hb
theorem val_field (hz : vE z = 0) : validL (fieldL z.su z.gi (namN z.fm)) = true := by
  obtain ⟨h1, _, _, h4, h5, _⟩ := vE_ok hz
  have hn : 1 ≤ namN z.fm ∧ namN z.fm ≤ 64 := by unfold namN; repeat (first | omega | split)
  have hs := (field_back h4.2 h5 h4.1 hn.1 hn.2).1
  have hb : fieldB (fieldL z.su z.gi (namN z.fm)) = true := by
    unfold spE at hs
    rcases hq : fieldB (fieldL z.su z.gi (namN z.fm)) with _ | _
    · rw [hq] at hs
      split at hs
      · exact absurd hs (by decide)
      · rw [if_pos rfl] at hs; exact absurd hs (by decide)
    · rfl
  refine validL_good fun k hk => ?_
  rcases of_decide_eq_true hb k hk with h | h
  · have := ltr_bd h
    rw [vI_2 this.1 this.2]; omega
  · rw [vI_3 h]; decide
theorem val_ite {c : Prop} [Decidable c] {x y : List UInt8} (hx : validL x = true) (hy : validL y = true) : validL (if c then x else y) = true := by
  by_cases h : c
  · rw [if_pos h]; exact hx
  · rw [if_neg h]; exact hy
theorem bk_tx (hz : vE z = 0) (k : Nat) : validL (tx2 z k) = true := by
  obtain ⟨h1, h2, h3, h4, h5, h6, h7, h8, h9, h10, h11, h12, h13, h14, h15⟩ := vE_ok hz
  have hv := (num_fill h6.2).2
  have hr : validL (restT z) = true := by rw [rest_seg, val_app, (val_num hv).2, extra_ok h12]; rfl
  unfold tx2
  refine val_ite (val_dg _) ?_
  unfold tx
  exact val_ite (val_code h2) (val_ite (val_code h3) (val_ite (val_field hz) (val_ite (val_sub hv fun b hb => List.mem_of_mem_take hb) (val_ite (val_ite rfl (val_dg _)) (val_ite (val_code h8) (val_ite (bir_ok h9) (val_ite (val_dg _) (val_ite (val_sex h10)
    (val_ite (exp_ok h11).2 (val_ite (val_dg _) (val_ite hr (val_ite (val_ite rfl (val_dg _)) (val_ite (extra_ok h13) rfl)))))))))))))
theorem bk_valid (hz : vE z = 0) : allV (buildT z) = true := by
  unfold allV buildT linesT
  rw [List.all_eq_true]
  intro x hx
  obtain ⟨i, _, rfl⟩ := List.mem_map.1 hx
  have key : ∀ sg : List (Nat × Nat), validL (lineT sg (tx2 z)) = true := by
    intro sg
    induction sg with
    | nil => rfl
    | cons p r ih => rw [lineT_cons, val_app, ih, val_pad (bk_tx hz _)]; rfl
  exact key _
theorem bk_fd (hz : vE z = 0) (k : Nat) (hk : k < 15) : fd z.fm (buildT z) k = padT (sizN z.fm k) (tx2 z k) := fd_lines (vE_ok hz).1 _ k hk
theorem siz_all {f : Int} (h : 1 ≤ f ∧ f ≤ 3) : sizN f 0 = 2 ∧ sizN f 1 = 3 ∧ sizN f 2 = namN f ∧ sizN f 3 = 9 ∧ sizN f 4 = 1 ∧ sizN f 5 = 3 ∧ sizN f 6 = 6 ∧ sizN f 7 = 1 ∧ sizN f 8 = 1 ∧ sizN f 9 = 6 ∧ sizN f 10 = 1 ∧ sizN f 11 = optN f ∧ sizN f 12 = (if f = 3 then 1 else 0) ∧ sizN f 13 = (if f = 1 then 11 else 0) ∧ sizN f 14 = 1 := by
  have h : f = 1 ∨ f = 2 ∨ f = 3 := by omega
  rcases h with rfl | rfl | rfl <;> decide
structure BackF (z : Zn) (F : Nat → List UInt8) : Prop where
  k0 : trimT (F 0) = z.kd
  k1 : trimT (F 1) = z.st
  k2 : F 2 = fieldL z.su z.gi (namN z.fm)
  k3 : F 3 = padT 9 (z.nu.take 9)
  k4 : F 4 = if 9 < z.nu.length then [60] else dgL z.nu
  k5 : trimT (F 5) = z.na
  k6 : F 6 = z.bi
  k7 : F 7 = dgL z.bi
  k8 : F 8 = z.sx
  k9 : F 9 = z.ex
  k10 : F 10 = dgL z.ex
  k11 : F 11 = (numR z.nu ++ z.op) ++ List.replicate (optN z.fm - (numR z.nu ++ z.op).length) 60
  k12 : z.fm = 3 → F 12 = if z.op = [] then [60] else dgL z.op
  k13 : trimT (F 13) = z.se
theorem bk_fields (hz : vE z = 0) : BackF z (fd z.fm (buildT z)) := by
  obtain ⟨h1, h2, h3, h4, h5, h6, h7, h8, h9, h10, h11, h12, h13, h14, h15⟩ := vE_ok hz
  obtain ⟨s0, s1, s2, s3, s4, s5, s6, s7, s8, s9, s10, s11, s12, s13, s14⟩ := siz_all h1
  obtain ⟨r1, r2, r3⟩ := room_ok hz
  have hv := (num_fill h6.2).2
  refine ⟨?_, ?_, ?_, ?_, ?_, ?_, ?_, ?_, ?_, ?_, ?_, ?_, ?_, ?_⟩
  · rw [bk_fd hz 0 (by decide), s0]; exact trim_pad (code_le h2) (code_last h2)
  · rw [bk_fd hz 1 (by decide), s1]; exact trim_pad (code_le h3) (code_last h3)
  · rw [bk_fd hz 2 (by decide), s2]; exact padT_full (names_len hz)
  · rw [bk_fd hz 3 (by decide), s3]; rfl
  · rw [bk_fd hz 4 (by decide), s4]
    show padT 1 (if 9 < z.nu.length then [60] else dgL z.nu) = _
    split
    · rfl
    · exact padT_full (dg_one hv)
  · rw [bk_fd hz 5 (by decide), s5]; exact trim_pad (code_le h8) (code_last h8)
  · rw [bk_fd hz 6 (by decide), s6]; exact padT_full (bir_valid h9)
  · rw [bk_fd hz 7 (by decide), s7]; exact padT_full (dg_one (bir_ok h9))
  · rw [bk_fd hz 8 (by decide), s8]; exact padT_full (sex_len h10)
  · rw [bk_fd hz 9 (by decide), s9]; exact padT_full (exp_ok h11).1
  · rw [bk_fd hz 10 (by decide), s10]; exact padT_full (dg_one (exp_ok h11).2)
  · rw [bk_fd hz 11 (by decide), s11]
    show padT (optN z.fm) (restT z) = _
    rw [rest_seg, padT_fit r1]
  · intro e
    rw [bk_fd hz 12 (by decide), s12, if_pos e]
    show padT 1 (if z.op = [] then [] else dgL z.op) = _
    split
    · rfl
    · exact padT_full (dg_one (extra_ok h12))
  · rw [bk_fd hz 13 (by decide), s13]
    by_cases e : z.fm = 1
    · rw [if_pos e]; exact trim_pad r2 (extra_last h13)
    · rw [if_neg e]
      have : z.se = [] := Classical.byContradiction fun h => h14 ⟨h, e⟩
      show trimT (padT 0 z.se) = _
      rw [this]; rfl
theorem bk_comp (hz : vE z = 0) : cmpT z.fm (buildT z) = compL z ∧ fd z.fm (buildT z) 14 = dgL (compL z) := by
  have h14 : fd z.fm (buildT z) 14 = dgL (compL z) := by
    rw [bk_fd hz 14 (by decide), (siz_all (vE_ok hz).1).2.2.2.2.2.2.2.2.2.2.2.2.2.2]
    show padT 1 (dgL (cmpT z.fm (linesT z.fm (tx z)))) = _
    rw [comp_eq hz]
    exact padT_full (dg_one (val_comp hz))
  refine ⟨?_, h14⟩
  have hbl := body_len hz
  have h1 := (vE_ok hz).1
  have hf : z.fm = 1 ∨ z.fm = 2 ∨ z.fm = 3 := by omega
  have hR : refL z = firstL z :: (bodyL z ++ dgL (compL z)) :: (if z.fm = 1 then [fieldL z.su z.gi (namN z.fm)] else []) := by unfold refL; split <;> rfl
  rw [← ref_lines hz, hR]
  obtain ⟨r, hr⟩ : ∃ r, (if z.fm = 1 then [fieldL z.su z.gi (namN z.fm)] else []) = r := ⟨_, rfl⟩
  rw [hr]
  clear hr hR
  obtain ⟨dd, hdd⟩ : ∃ dd, dgL (compL z) = dd := ⟨_, rfl⟩
  rw [hdd]
  clear hdd h14
  have s0 : ∀ a b, subL (firstL z :: (bodyL z ++ dd) :: r) (0, a, b) = slc (firstL z) a b := fun _ _ => rfl
  have s1 : ∀ a b, b ≤ (bodyL z).length → subL (firstL z :: (bodyL z ++ dd) :: r) (1, a, b) = slc (bodyL z) a b := fun a b h => by
    show slc (bodyL z ++ dd) a b = _
    rw [slc_app h]
  have s9 : subL (firstL z :: (bodyL z ++ dd) :: r) (0, 0, 0) = [] := by show ((firstL z).drop 0).take 0 = []; simp
  unfold cmpT compL
  rcases hf with e | e | e
  · rw [e] at hbl ⊢
    have w1 : widN 1 = 30 := rfl
    rw [if_pos rfl]
    show List.flatMap _ [(0, 5, 30), (1, 0, 7), (1, 8, 15), (1, 18, 29)] = _
    simp only [List.flatMap_cons, List.flatMap_nil, List.append_nil]
    rw [s0, s1 _ _ (by omega), s1 _ _ (by omega), s1 _ _ (by omega)]
    simp only [List.append_assoc]
  · rw [e] at hbl ⊢
    have w2 : widN 2 = 36 := rfl
    rw [if_neg (by decide), if_pos rfl]
    show List.flatMap _ [(1, 0, 10), (1, 13, 20), (1, 21, 35), (0, 0, 0)] = _
    simp only [List.flatMap_cons, List.flatMap_nil, List.append_nil]
    rw [s1 _ _ (by omega), s1 _ _ (by omega), s1 _ _ (by omega), s9]
    simp only [List.append_assoc, List.append_nil]
  · rw [e] at hbl ⊢
    have w3 : widN 3 = 44 := rfl
    rw [if_neg (by decide), if_neg (by decide)]
    show List.flatMap _ [(1, 0, 10), (1, 13, 20), (1, 21, 43), (0, 0, 0)] = _
    simp only [List.flatMap_cons, List.flatMap_nil, List.append_nil]
    rw [s1 _ _ (by omega), s1 _ _ (by omega), s1 _ _ (by omega), s9]
    simp only [List.append_assoc, List.append_nil]
theorem dg_take {x : List UInt8} (h : x.length ≤ 9) : dgL (padT 9 (x.take 9)) = dgL x := by
  rw [List.take_of_length_le h, padT_fit h, dgL_fill]
theorem bk_digs (hz : vE z = 0) : digsB z.fm (fd z.fm (buildT z)) = true := by
  obtain ⟨h1, h2, h3, h4, h5, h6, h7, h8, h9, h10, h11, h12, h13, h14, h15⟩ := vE_ok hz
  have B := bk_fields hz
  obtain ⟨r1, r2, r3⟩ := room_ok hz
  unfold digsB dg1 dg2 dg3
  rw [Bool.and_eq_true, Bool.and_eq_true, decide_eq_true_eq, decide_eq_true_eq, decide_eq_true_eq]
  refine ⟨?_, ⟨by rw [B.k7, B.k6], by rw [B.k10, B.k9]⟩, ?_⟩
  · rw [B.k4, B.k3]
    split
    · exact .inl rfl
    · rename_i h; exact .inr (dg_take (by omega)).symm
  · by_cases e : z.fm = 3
    · have hnr : numR z.nu = [] := by unfold numR; rw [if_pos (r3 e)]
      rw [B.k12 e, B.k11, hnr]
      refine .inr ?_
      split
      · rename_i ho
        refine .inr ⟨?_, rfl⟩
        rw [ho]
        exact trim_rep (x := []) (.inl rfl) _
      · refine .inl ?_
        rw [List.nil_append, dgL_fill]
    · exact .inl e
/-- the zone with what its lines give for the names -/
def cutN (z : Zn) : Zn := { z with su := spA (fieldL z.su z.gi (namN z.fm)), gi := spB (fieldL z.su z.gi (namN z.fm)) }
theorem bk_join (hz : vE z = 0) : jE (fd z.fm (buildT z) 4) (fd z.fm (buildT z) 3) (fd z.fm (buildT z) 11) = 0 ∧ jN (fd z.fm (buildT z) 4) (fd z.fm (buildT z) 3) (fd z.fm (buildT z) 11) = z.nu ∧ jO (fd z.fm (buildT z) 4) (fd z.fm (buildT z) 11) = z.op := by
  obtain ⟨h1, h2, h3, h4, h5, h6, h7, h8, h9, h10, h11, h12, h13, h14, h15⟩ := vE_ok hz
  have B := bk_fields hz
  obtain ⟨hn, hv⟩ := num_fill h6.2
  rw [B.k4, B.k3, B.k11]
  obtain ⟨m, hm⟩ : ∃ m, optN z.fm - (numR z.nu ++ z.op).length = m := ⟨_, rfl⟩
  rw [hm]
  clear hm
  by_cases h : 9 < z.nu.length
  · rw [if_pos h]
    have e3 : padT 9 (z.nu.take 9) = z.nu.take 9 := padT_full (by rw [List.length_take]; omega)
    have er : numR z.nu ++ z.op ++ List.replicate m 60 = (z.nu.drop 9 ++ dgL z.nu) ++ 60 :: (z.op ++ List.replicate m 60) := by
      unfold numR
      rw [if_neg (by omega)]
      simp
    have ed := dg_one hv
    have ek : kf ((z.nu.drop 9 ++ dgL z.nu) ++ 60 :: (z.op ++ List.replicate m 60)) = z.nu.length - 8 := by
      rw [kf_app _ _ (fun x hx => by
        rcases List.mem_append.1 hx with h | h
        · exact fill_mem hn x (List.mem_of_mem_drop h)
        · obtain ⟨c, e, c1, c2⟩ := dg_form hv
          rw [e, List.mem_singleton] at h
          intro e2
          rw [← h, e2] at c2
          exact absurd c2 (by decide)), List.length_append, List.length_drop, ed]
      omega
    have e1 : (z.nu.drop 9 ++ dgL z.nu ++ 60 :: (z.op ++ List.replicate m 60)).take (z.nu.length - 8 - 1) = z.nu.drop 9 := by
      rw [List.append_assoc]
      exact List.take_left' (by rw [List.length_drop]; omega)
    have e2 : ((z.nu.drop 9 ++ dgL z.nu ++ 60 :: (z.op ++ List.replicate m 60)).drop (z.nu.length - 8 - 1)).take 1 = dgL z.nu := by
      rw [List.append_assoc, List.drop_left' (by rw [List.length_drop]; omega)]
      exact List.take_left' ed
    have e5 : (z.nu.drop 9 ++ dgL z.nu ++ 60 :: (z.op ++ List.replicate m 60)).drop (z.nu.length - 8 + 1) = z.op ++ List.replicate m 60 := by
      rw [show z.nu.drop 9 ++ dgL z.nu ++ 60 :: (z.op ++ List.replicate m 60) = (z.nu.drop 9 ++ dgL z.nu ++ [60]) ++ (z.op ++ List.replicate m 60) by simp]
      exact List.drop_left' (by simp [ed]; omega)
    have el : (z.nu.drop 9 ++ dgL z.nu ++ 60 :: (z.op ++ List.replicate m 60)).length = z.nu.length - 7 + (z.op.length + m) := by
      simp [ed]; omega
    rw [er]
    unfold jE jN jO
    have hc : ¬ (([60] : List UInt8) ≠ [60]) := fun h => h rfl
    rw [if_neg hc, if_neg hc, if_neg hc, ek, e1, e2, e5, e3, List.take_append_drop, el]
    refine ⟨?_, rfl, trim_rep (extra_last h12) m⟩
    rw [if_neg (by omega), if_neg (fun h => h rfl)]
  · rw [if_neg h]
    have hne := dg_ne hv
    have hnr : numR z.nu = [] := by unfold numR; rw [if_pos (by omega)]
    unfold jE jN jO
    rw [if_pos hne, if_pos hne, if_pos hne]
    refine ⟨rfl, ?_, ?_⟩
    · rw [List.take_of_length_le (by omega)]
      exact trim_pad (by omega) (num_last hn)
    · rw [hnr, List.nil_append]
      exact trim_rep (extra_last h12) m
theorem bk_zo (hz : vE z = 0) : zoE z.fm (fd z.fm (buildT z)) = 0 ∧ zoZ z.fm (fd z.fm (buildT z)) = cutN z := by
  obtain ⟨h1, h2, h3, h4, h5, h6, h7, h8, h9, h10, h11, h12, h13, h14, h15⟩ := vE_ok hz
  have B := bk_fields hz
  obtain ⟨j1, j2, j3⟩ := bk_join hz
  obtain ⟨r1, r2, r3⟩ := room_ok hz
  have hn : 1 ≤ namN z.fm ∧ namN z.fm ≤ 64 := by unfold namN; repeat (first | omega | split)
  refine ⟨?_, ?_⟩
  · unfold zoE jnE
    rw [j1, if_neg, if_neg (by decide), B.k2]
    · exact (field_back h4.2 h5 h4.1 hn.1 hn.2).1
    · rintro ⟨e4, e⟩
      rw [B.k4, if_neg (by have := r3 e; omega)] at e4
      exact dg_ne (num_fill h6.2).2 e4
  · unfold zoZ jnN jnO cutN
    rw [j2, j3, B.k0, B.k1, B.k2, B.k5, B.k6, B.k8, B.k9, B.k13]
/-- what the lines of a valid zone stand for -/
theorem bk_par (hz : vE z = 0) : parE (buildT z) = vE (cutN z) ∧ (parE (buildT z) = 0 → parZ (buildT z) = cutN z) := by
  have h1 := (vE_ok hz).1
  obtain ⟨c1, c2⟩ := bk_comp hz
  obtain ⟨z1, z2⟩ := bk_zo hz
  have h := par_v (bk_shape hz) (by omega) (bk_valid hz) (bk_digs hz) (by rw [c2, c1]) z1
  rw [z2] at h
  exact ⟨h.1, fun e => by rw [h.2, if_pos (by rw [← h.1]; exact e)]⟩
/-- how much room the names need -/
def needL (z : Zn) : Nat := z.su.length + if z.gi = [] then 0 else 2 + z.gi.length
theorem bk_fit (hz : vE z = 0) (hn : needL z ≤ namN z.fm) : cutN z = z := by
  obtain ⟨h1, _, _, h4, h5, _⟩ := vE_ok hz
  have hw : 1 ≤ namN z.fm ∧ namN z.fm ≤ 64 := by unfold namN; repeat (first | omega | split)
  obtain ⟨_, _, h, _⟩ := field_back h4.2 h5 h4.1 hw.1 hw.2
  obtain ⟨a, b, _⟩ := h (by rw [joinN_len]; exact hn)
  unfold cutN
  rw [a, b]
end
end Go.Proofs.YtdlcoilpkelbaaaGreatDoor
namespace Go.Proofs.YtdlcoilpkelbaaaGreatDoor
open Go.RowKit Go.Maps
set_option linter.unusedVariables false

theorem fd_len {f : Int} (hf : 1 ≤ f ∧ f ≤ 3) {ls : List (List UInt8)} (h : LinesOf f ls) {k : Nat} (hk : k < 15) : (fd f ls k).length = sizN f k := by
  obtain ⟨h1, h2, h3⟩ := plc_ok hf hk
  have h4 := h.2 _ h1
  show (((ls.getD (plc f k).1 []).drop (plc f k).2.1).take ((plc f k).2.2 - (plc f k).2.1)).length = (plc f k).2.2 - (plc f k).2.1
  rw [List.length_take, List.length_drop]
  omega
/-- a day's characters of the lines: from the birth to the digit of the expiry -/
theorem days_ok (x : List UInt8) (a : Nat) (h : a + 15 ≤ x.length) (Y : ByteArray) (hY : Y = S ((x.drop a).take 15)) :
    Y.size = 15 ∧ Y.extract 0 6 = S ((x.drop a).take 6) ∧ Y.extract 7 8 = S ((x.drop (a + 7)).take 1) ∧ Y.extract 8 14 = S ((x.drop (a + 8)).take 6) ∧
    (∀ w, (Instr.index 9 (.string Y) (.int .i64 6)).run Tryz.prog w = .ok (.int .u8 (cB ((x.drop (a + 6)).take 1) 0)) w) ∧
    (∀ w, (Instr.index 9 (.string Y) (.int .i64 14)).run Tryz.prog w = .ok (.int .u8 (cB ((x.drop (a + 14)).take 1) 0)) w) := by
  have hs : Y.size = 15 := by rw [hY, S_size, List.length_take, List.length_drop]; omega
  refine ⟨hs, ?_, ?_, ?_, fun w => ?_, fun w => ?_⟩
  · rw [hY, S_extract]; congr 1; simp [List.take_take]
  · rw [hY, S_extract]; congr 1; simp [List.drop_take, List.take_take]
  · rw [hY, S_extract]; congr 1; simp [List.drop_take, List.take_take]
  · exact ix_at (k := 6) hY (by omega) (by rw [cB_take (by decide), cB_drop, cB_take (by decide), cB_drop]) w
  · exact ix_at (k := 14) hY (by omega) (by rw [cB_take (by decide), cB_drop, cB_take (by decide), cB_drop]) w
/-- what the reference's texts are, by the fields of the lines -/
structure Sw (f : Int) (ls : List (List UInt8)) (N D Y O AL NM NA SE : ByteArray) : Prop where
  n : N = S (fd f ls 3)
  d : D = S (fd f ls 4)
  y6 : Y.extract 0 6 = S (fd f ls 6)
  y8 : Y.extract 7 8 = S (fd f ls 8)
  y9 : Y.extract 8 14 = S (fd f ls 9)
  i6 : ∀ w, (Instr.index 9 (.string Y) (.int .i64 6)).run Tryz.prog w = .ok (.int .u8 (cB (fd f ls 7) 0)) w
  i14 : ∀ w, (Instr.index 9 (.string Y) (.int .i64 14)).run Tryz.prog w = .ok (.int .u8 (cB (fd f ls 10) 0)) w
  o : O = S (fd f ls 11)
  al : AL = S (cmpT f ls)
  nm : NM = S (fd f ls 2)
  na : NA = S (trimT (fd f ls 5))
  se : SE = S (trimT (fd f ls 13))
  sy : Y.size = 15
theorem sw_1 {ls : List (List UInt8)} (h : LinesOf 1 ls) : Sw 1 ls ((S (ls.getD 0 [])).extract 5 14) ((S (ls.getD 0 [])).extract 14 15) ((S (ls.getD 1 [])).extract 0 15) ((S (ls.getD 0 [])).extract 15 30)
    ((S (ls.getD 0 [])).extract 5 30 ++ (S (ls.getD 1 [])).extract 0 7 ++ (S (ls.getD 1 [])).extract 8 15 ++ (S (ls.getD 1 [])).extract 18 29) (S (ls.getD 2 [])) (S (trimT (((ls.getD 1 []).drop 15).take 3))) (S (trimT (((ls.getD 1 []).drop 18).take 11))) := by
  have h1 : (ls.getD 1 []).length = 30 := h.2 1 (by decide)
  have h2 : (ls.getD 2 []).length = 30 := h.2 2 (by decide)
  obtain ⟨y1, y2, y3, y4, y5, y6⟩ := days_ok (ls.getD 1 []) 0 (by omega) _ (S_extract (ls.getD 1 []) 0 15)
  refine ⟨S_extract _ _ _, S_extract _ _ _, y2, y3, y4, y5, y6, S_extract _ _ _, ?_, ?_, rfl, rfl, y1⟩
  · simp only [S_extract, S_append]; exact congrArg S (by simp [cmpT, cmps, subL])
  · show S (ls.getD 2 []) = S (((ls.getD 2 []).drop 0).take 30)
    rw [List.drop_zero, List.take_of_length_le (by omega)]
theorem sw_2 {ls : List (List UInt8)} (h : LinesOf 2 ls) : Sw 2 ls ((S (ls.getD 1 [])).extract 0 9) ((S (ls.getD 1 [])).extract 9 10) ((S (ls.getD 1 [])).extract 13 28) ((S (ls.getD 1 [])).extract 28 35)
    ((S (ls.getD 1 [])).extract 0 10 ++ (S (ls.getD 1 [])).extract 13 20 ++ (S (ls.getD 1 [])).extract 21 35) ((S (ls.getD 0 [])).extract 5 (S (ls.getD 0 [])).size) (S (trimT (((ls.getD 1 []).drop 10).take 3))) ⟨#[]⟩ := by
  have h1 : (ls.getD 1 []).length = 36 := h.2 1 (by decide)
  have h0 : (ls.getD 0 []).length = 36 := h.2 0 (by decide)
  obtain ⟨y1, y2, y3, y4, y5, y6⟩ := days_ok (ls.getD 1 []) 13 (by omega) _ (S_extract (ls.getD 1 []) 13 28)
  refine ⟨S_extract _ _ _, S_extract _ _ _, y2, y3, y4, y5, y6, S_extract _ _ _, ?_, ?_, rfl, ?_, y1⟩
  · simp only [S_extract, S_append]; exact congrArg S (by simp [cmpT, cmps, subL])
  · rw [S_extract, S_size, h0]; rfl
  · show _ = S (trimT (((ls.getD 0 []).drop 0).take 0)); rw [List.take_zero]; rfl
theorem sw_3 {ls : List (List UInt8)} (h : LinesOf 3 ls) : Sw 3 ls ((S (ls.getD 1 [])).extract 0 9) ((S (ls.getD 1 [])).extract 9 10) ((S (ls.getD 1 [])).extract 13 28) ((S (ls.getD 1 [])).extract 28 42)
    ((S (ls.getD 1 [])).extract 0 10 ++ (S (ls.getD 1 [])).extract 13 20 ++ (S (ls.getD 1 [])).extract 21 43) ((S (ls.getD 0 [])).extract 5 (S (ls.getD 0 [])).size) (S (trimT (((ls.getD 1 []).drop 10).take 3))) ⟨#[]⟩ := by
  have h1 : (ls.getD 1 []).length = 44 := h.2 1 (by decide)
  have h0 : (ls.getD 0 []).length = 44 := h.2 0 (by decide)
  obtain ⟨y1, y2, y3, y4, y5, y6⟩ := days_ok (ls.getD 1 []) 13 (by omega) _ (S_extract (ls.getD 1 []) 13 28)
  refine ⟨S_extract _ _ _, S_extract _ _ _, y2, y3, y4, y5, y6, S_extract _ _ _, ?_, ?_, rfl, ?_, y1⟩
  · simp only [S_extract, S_append]; exact congrArg S (by simp [cmpT, cmps, subL])
  · rw [S_extract, S_size, h0]; rfl
  · show _ = S (trimT (((ls.getD 0 []).drop 0).take 0)); rw [List.take_zero]; rfl
section
variable {f : Int} {ls : List (List UInt8)}
theorem fd_valid (h : LinesOf f ls) (hf : 1 ≤ f ∧ f ≤ 3) (hav : allV ls = true) {k : Nat} (hk : k < 15) : validL (fd f ls k) = true := by
  have h1 := (plc_ok hf hk).1
  unfold allV at hav
  rw [List.all_eq_true] at hav
  refine val_sub (hav (ls.getD (plc f k).1 []) ?_) fun x hx => List.mem_of_mem_drop (List.mem_of_mem_take hx)
  rw [List.getD_eq_getElem?_getD, List.getElem?_eq_getElem (by rw [h.1]; exact h1)]
  exact List.getElem_mem _
theorem cmp_valid (h : LinesOf f ls) (hf : 1 ≤ f ∧ f ≤ 3) (hav : allV ls = true) : validL (cmpT f ls) = true := by
  have hall : ∀ p : Nat × Nat × Nat, p ∈ cmps f → validL (subL ls p) = true := fun p hp => by
    have h1 : p.1 < cntN f := by
      have hf' : f = 1 ∨ f = 2 ∨ f = 3 := by omega
      have : ∀ p ∈ cmps f, p.1 < cntN f := by rcases hf' with rfl | rfl | rfl <;> decide
      exact this p hp
    unfold allV at hav
    rw [List.all_eq_true] at hav
    refine val_sub (hav (ls.getD p.1 []) ?_) fun x hx => List.mem_of_mem_drop (List.mem_of_mem_take hx)
    rw [List.getD_eq_getElem?_getD, List.getElem?_eq_getElem (by rw [h.1]; exact h1)]
    exact List.getElem_mem _
  unfold validL
  rw [List.all_eq_true]
  intro b hb
  obtain ⟨p, hp, hb2⟩ := List.mem_flatMap.1 hb
  exact List.all_eq_true.1 (hall p hp) b hb2
theorem cmp_len (h : LinesOf f ls) (hf : 1 ≤ f ∧ f ≤ 3) : (cmpT f ls).length ≤ 176 := by
  have hall : ∀ p : Nat × Nat × Nat, (subL ls p).length ≤ 44 := fun p => by
    unfold subL
    rw [List.length_take, List.length_drop]
    have hw : widN f ≤ 44 := by unfold widN; repeat (first | omega | split)
    have : (ls.getD p.1 []).length ≤ 44 := by
      by_cases hc : p.1 < cntN f
      · rw [h.2 _ hc]; exact hw
      · rw [List.getD_eq_getElem?_getD, List.getElem?_eq_none (by rw [h.1]; omega)]; simp
    omega
  have key : ∀ l : List (Nat × Nat × Nat), (l.flatMap (subL ls)).length ≤ 44 * l.length := by
    intro l
    induction l with
    | nil => simp
    | cons p r ih => rw [List.flatMap_cons, List.length_append, List.length_cons]; have := hall p; omega
  have h4 : (cmps f).length = 4 := by unfold cmps; repeat (first | rfl | split)
  have := key (cmps f)
  unfold cmpT
  omega
/-- where no filler stands ahead -/
theorem kf_is : ∀ {x : List UInt8} {k : Nat}, k ≤ x.length → (∀ i, i < k → cB x i ≠ 60) → (k < x.length → cB x k = 60) → kf x = k
  | [], k, h, _, _ => by simp at h; subst h; rfl
  | a :: r, 0, h, h1, h2 => by
    have h3 := h2 (by simp)
    rw [cB_get (by simp)] at h3
    have : a = 60 := by
      have h4 : a.toNat = 60 := by have : (a.toNat : Int) = 60 := h3; omega
      exact UInt8.toNat.inj (by rw [h4]; rfl)
    subst this
    rfl
  | a :: r, k + 1, h, h1, h2 => by
    have h3 := h1 0 (by omega)
    have e0 : cB (a :: r) 0 = (a.toNat : Int) := rfl
    have hne : a ≠ 60 := by rintro rfl; exact h3 rfl
    have hc : ∀ i, cB (a :: r) (i + 1) = cB r i := fun i => rfl
    have ih := kf_is (x := r) (k := k) (by simpa using h) (fun i hi => by rw [← hc]; exact h1 (i + 1) (by omega)) (fun hk => by rw [← hc]; exact h2 (by simpa using hk))
    unfold kf at ih ⊢
    rw [List.takeWhile_cons_of_pos (by simpa using hne), List.length_cons, ih]
end
section
open Go.RowKit
variable {P : Program} {a : Act} {w w' : World} {K : Act → World → Prop} {Q : Exit → Act → World → Prop} {o : Oper}
theorem o_sub (T T2 : TypeId) (x y : Operand) (ho : o.op = .binOp .sub T x y T2) {v vx vy : Value} (hx : a.eval x = vx) (hy : a.eval y = vy) (hr : (do eqGuard .sub T x y vx vy; binOp .sub T vx vy).run P w = .ok v w) (hK : K (a.put o.dst v) w) : o.wp P a w K Q := by
  unfold Oper.wp execOp
  simp only [ho, hx, hy]
  rw [Sem.run_bind, hr]
  exact hK
end
theorem add_str (A B : ByteArray) (h : A.size + B.size ≤ 1000000) (x y : Operand) (w : World) : (do eqGuard .add 9 x y (.string A) (.string B); binOp .add 9 (.string A) (.string B)).run Tryz.prog w = .ok (.string (A ++ B)) w := by
  simp [eqGuard, binOp, go_sem]; omega
theorem sub_one (k : Nat) (h1 : 1 ≤ k) (h2 : k ≤ 1000000) (x y : Operand) (w : World) : (do eqGuard .sub 3 x y (.int .i64 (k : Int)) (.int .i64 1); binOp .sub 3 (.int .i64 (k : Int)) (.int .i64 1)).run Tryz.prog w = .ok (.int .i64 ((k - 1 : Nat) : Int)) w := by
  have h3 : IntKind.i64.wrap ((k : Int) - 1) = ((k - 1 : Nat) : Int) := by rw [show ((k : Int) - 1) = ((k - 1 : Nat) : Int) by omega]; exact wrap_small _ (by omega) (by omega)
  simp [eqGuard, binOp, go_sem, h3]
theorem add_one (k : Nat) (h2 : k ≤ 1000000) (x y : Operand) (w : World) : (do eqGuard .add 3 x y (.int .i64 (k : Int)) (.int .i64 1); binOp .add 3 (.int .i64 (k : Int)) (.int .i64 1)).run Tryz.prog w = .ok (.int .i64 ((k + 1 : Nat) : Int)) w := by
  have h3 : IntKind.i64.wrap ((k : Int) + 1) = ((k + 1 : Nat) : Int) := by rw [show ((k : Int) + 1) = ((k + 1 : Nat) : Int) by omega]; exact wrap_small _ (by omega) (by omega)
  simp [eqGuard, binOp, go_sem, h3]
theorem fd01 {f : Int} (hf : 1 ≤ f ∧ f ≤ 3) (ls : List (List UInt8)) : fd f ls 0 = (ls.getD 0 []).take 2 ∧ fd f ls 1 = ((ls.getD 0 []).drop 2).take 3 := by
  have h : f = 1 ∨ f = 2 ∨ f = 3 := by omega
  rcases h with rfl | rfl | rfl <;> exact ⟨rfl, rfl⟩
/-- the last character of the second line, and that ahead of it in a book -/
theorem fd14 {f : Int} (hf : 1 ≤ f ∧ f ≤ 3) (ls : List (List UInt8)) : cB (fd f ls 14) 0 = cB (ls.getD 1 []) (widN f - 1) := by
  have h : f = 1 ∨ f = 2 ∨ f = 3 := by omega
  have key : ∀ k, cB (((ls.getD 1 []).drop k).take 1) 0 = cB (ls.getD 1 []) k := fun k => by rw [cB_take (by decide), cB_drop]; rfl
  rcases h with rfl | rfl | rfl
  · exact key 29
  · exact key 35
  · exact key 43
theorem one_60 {y : List UInt8} (h : y.length = 1) : (cB y 0 == 60) = decide (y = [60]) := by
  obtain ⟨a, rfl⟩ := List.length_eq_one_iff.1 h
  have e : cB [a] 0 = (a.toNat : Int) := rfl
  rw [e]
  by_cases ha : a = 60
  · subst ha; rfl
  · have h1 : a.toNat ≠ 60 := fun h => ha (UInt8.toNat.inj (by rw [h]; rfl))
    rw [decide_eq_false (by simpa using ha)]
    simp; omega
theorem empty_b {X : ByteArray} {x : List UInt8} (h : X = S x) : X.toList.isEmpty = decide (x = []) := by
  by_cases e : x = []
  · rw [s_nil h e, decide_eq_true e]
  · rw [s_ne h e, decide_eq_false e]
end Go.Proofs.YtdlcoilpkelbaaaGreatDoor
namespace Go.Proofs.YtdlcoilpkelbaaaGreatDoor
open Go.RowKit
set_option linter.unusedVariables false

/-- no guards; what an operation waits for stands ahead of it; the slots written are apart and there -/
def setB2 (ops : Array Oper) (n : Nat) : Bool :=
  (List.range ops.size).all fun i => match ops[i]? with
    | none => true
    | some o => o.guard.isNone && o.after.all (fun e => !Region.binds .any e || decide (e.on < i)) && (match o.dst with
      | none => true
      | some d => decide (d < n) && (List.range ops.size).all fun j => decide (j = i) || match ops[j]? with
        | none => true
        | some oj => decide (oj.dst ≠ some d))
theorem setB_at2 {ops : Array Oper} {n i : Nat} {o : Oper} (h : setB2 ops n = true) (hi : ops[i]? = some o) :
    o.guard = none ∧ (∀ e ∈ o.after, Region.binds .any e = true → e.on < i) ∧ ∀ d, o.dst = some d → d < n ∧ ∀ (j : Nat) (oj : Oper), ops[j]? = some oj → oj.dst = some d → j = i := by
  unfold setB2 at h
  rw [List.all_eq_true] at h
  have hlt : i < ops.size := (Array.getElem?_eq_some_iff.1 hi).1
  have h1 := h i (List.mem_range.2 hlt)
  rw [hi] at h1
  simp only [Bool.and_eq_true] at h1
  obtain ⟨⟨h2, h3⟩, h4⟩ := h1
  refine ⟨by simpa using h2, fun e he => ?_, fun d hd => ?_⟩
  · rw [Array.all_eq_true'] at h3
    intro hb
    have := h3 e he
    rw [hb] at this
    simpa using this
  · rw [hd] at h4
    simp only [Bool.and_eq_true, decide_eq_true_eq, List.all_eq_true] at h4
    refine ⟨h4.1, fun j oj hj hdj => ?_⟩
    have h5 := h4.2 j (List.mem_range.2 (Array.getElem?_eq_some_iff.1 hj).1)
    rw [hj] at h5
    simp only [Bool.or_eq_true, decide_eq_true_eq] at h5
    rcases h5 with h5 | h5
    · exact h5
    · exact absurd hdj h5
theorem SlotsIn.put2 {ops : Array Oper} {a0 a : Act} {S : Nat → Bool} {v v' : Nat → Value} {i : Nat} {o : Oper} (h : SlotsIn ops a0 S v a) (hB : setB2 ops a0.tmps.size = true) (hi : ops[i]? = some o) (hv : ∀ j, S j = true → v' j = v j) :
    SlotsIn ops a0 (fun j => S j || j == i) v' (a.put o.dst (v' i)) := by
  obtain ⟨h1, h2, h3, h4⟩ := h
  obtain ⟨_, _, hd⟩ := setB_at2 hB hi
  rcases ho : o.dst with _ | d
  · refine ⟨h1, h2, fun j oj d hj hdj hS => ?_, fun d hd' => ?_⟩
    · have hne : j ≠ i := by rintro rfl; rw [hi] at hj; injection hj with hj; rw [← hj, ho] at hdj; cases hdj
      have hS' : S j = true := by simpa [hne] using hS
      rw [hv j hS']
      exact h3 j oj d hj hdj hS'
    · exact h4 d fun j oj hj hdj => by have := hd' j oj hj hdj; simp only [Bool.or_eq_false_iff] at this; exact this.1
  · obtain ⟨hlt, huniq⟩ := hd d ho
    have key : ∀ d', (a.put (some d) (v' i)).tmps.getD d' undef = if d' = d then v' i else a.tmps.getD d' undef := by
      intro d'
      show (a.tmps.setIfInBounds d (v' i)).getD d' undef = _
      by_cases e : d' = d
      · subst e
        simp [Array.getD_eq_getD_getElem?, h2, hlt]
      · rw [if_neg e]
        simp [Array.getD_eq_getD_getElem?, Ne.symm e]
    refine ⟨h1, by show (a.tmps.setIfInBounds d (v' i)).size = _; simpa using h2, fun j oj d' hj hdj hS => ?_, fun d' hd' => ?_⟩
    · rw [key]
      by_cases e : d' = d
      · subst e
        rw [if_pos rfl, huniq j oj hj hdj]
      · rw [if_neg e]
        have hne : j ≠ i := by rintro rfl; rw [hi] at hj; injection hj with hj; rw [← hj, ho] at hdj; exact e (Option.some.inj hdj).symm
        have hS' : S j = true := by simpa [hne] using hS
        rw [hv j hS']
        exact h3 j oj d' hj hdj hS'
    · rw [key]
      have e : d' ≠ d := by
        rintro rfl
        have := hd' i o hi ho
        simp at this
      rw [if_neg e]
      exact h4 d' fun j oj hj hdj => by have := hd' j oj hj hdj; simp only [Bool.or_eq_false_iff] at this; exact this.1
theorem wpAny_set2 {P : Program} {ops : Array Oper} {Q : Exit → Act → World → Prop} (a0 : Act) {B : Type} (v : B → Nat → Value) (W : B → (Nat → Bool) → World → Prop) (hB : setB2 ops a0.tmps.size = true)
    (hstep : ∀ (i : Nat) (o : Oper), ops[i]? = some o → ∀ (b : B) (S : Nat → Bool) (w : World) (a : Act), W b S w → S i = false → (∀ e ∈ o.after, Region.binds .any e = true → S e.on = true) → SlotsIn ops a0 S (v b) a →
      o.wp P a w (fun a' w' => ∃ b', (∀ j, S j = true → v b' j = v b j) ∧ a' = a.put o.dst (v b' i) ∧ W b' (fun j => S j || j == i) w') Q)
    (hend : ∀ (b : B) (w : World) (a : Act) (S : Nat → Bool), (∀ j, j < ops.size → S j = true) → SlotsIn ops a0 S (v b) a → W b S w → Q .normal a w) :
    ∀ (fuel : Nat) (listed : Array Bool) (a : Act) (w : World) (b : B), listed.size = ops.size → ((List.range ops.size).filter (fun i => !listed.getD i false)).length = fuel →
      SlotsIn ops a0 (fun j => listed.getD j false) (v b) a → W b (fun j => listed.getD j false) w → wpAny P .any ops Q fuel listed a w
  | 0, listed, a, w, b, hs, hf, hS, hW => by
    have hall : ∀ j, j < ops.size → listed.getD j false = true := by
      intro j hj
      have h0 := List.eq_nil_of_length_eq_zero hf
      rw [List.filter_eq_nil_iff] at h0
      simpa using h0 j (List.mem_range.2 hj)
    refine ⟨?_, hend b w a _ hall hS hW⟩
    unfold Region.ready
    rw [List.filter_eq_nil_iff]
    intro j hj
    have h1 := hall j (List.mem_range.1 hj)
    have h2 : listed.getD j true = true := by
      rw [Array.getD_eq_getD_getElem?] at h1 ⊢
      rcases h3 : listed[j]? with _ | x
      · rfl
      · rw [h3] at h1; exact h1
    rw [h2]
    simp
  | fuel + 1, listed, a, w, b, hs, hf, hS, hW => by
    refine ⟨fun hnil => ?_, fun i hi => ?_⟩
    · -- the first that has not come up may come up
      exfalso
      obtain ⟨x, hx⟩ : ∃ x, x ∈ (List.range ops.size).filter (fun i => !listed.getD i false) := by
        rcases hl : (List.range ops.size).filter (fun i => !listed.getD i false) with _ | ⟨x, l⟩
        · rw [hl] at hf; simp at hf
        · exact ⟨x, by simp⟩
      have hex : ∃ x, x < ops.size ∧ listed.getD x false = false := ⟨x, by simpa using (List.mem_filter.1 hx).1, by simpa using (List.mem_filter.1 hx).2⟩
      obtain ⟨m, ⟨hm1, hm2⟩, hmin⟩ : ∃ m, (m < ops.size ∧ listed.getD m false = false) ∧ ∀ y, y < m → ¬ (y < ops.size ∧ listed.getD y false = false) := by
        obtain ⟨x, hx⟩ := hex
        induction x using Nat.strongRecOn with
        | _ x ih =>
          by_cases h : ∃ y, y < x ∧ (y < ops.size ∧ listed.getD y false = false)
          · obtain ⟨y, h1, h2⟩ := h; exact ih y h1 h2
          · exact ⟨x, hx, fun y hy h2 => h ⟨y, hy, h2⟩⟩
      obtain ⟨o, ho⟩ : ∃ o, ops[m]? = some o := ⟨_, Array.getElem?_eq_getElem hm1⟩
      have hmem : m ∈ Region.ready .any ops listed := by
        unfold Region.ready
        rw [List.mem_filter]
        refine ⟨List.mem_range.2 hm1, ?_⟩
        have h2 : listed.getD m true = false := by
          rw [Array.getD_eq_getD_getElem?] at hm2 ⊢
          rw [Array.getElem?_eq_getElem (by omega)] at hm2 ⊢
          exact hm2
        rw [h2, ho]
        simp only [Bool.not_false, Bool.true_and, Option.map_some, Option.getD_some]
        rw [Array.all_eq_true']
        intro e he
        rcases hbd : Region.binds .any e with _ | _
        · rfl
        have h3 := (setB_at2 hB ho).2.1 e he hbd
        rcases h4 : listed.getD e.on false with _ | _
        · exact absurd ⟨by omega, h4⟩ (hmin e.on h3)
        · simp
      rw [hnil] at hmem
      simp at hmem
    · unfold Region.ready at hi
      rw [List.mem_filter] at hi
      obtain ⟨hi1, hi2⟩ := hi
      have hlt := List.mem_range.1 hi1
      obtain ⟨o, ho⟩ : ∃ o, ops[i]? = some o := ⟨_, Array.getElem?_eq_getElem hlt⟩
      rw [ho] at hi2
      simp only [Option.map_some, Option.getD_some, Bool.and_eq_true, Bool.not_eq_true'] at hi2
      have hun : listed.getD i false = false := by
        have h1 := hi2.1
        rw [Array.getD_eq_getD_getElem?, Array.getElem?_eq_getElem (by omega)] at h1 ⊢
        exact h1
      have hdep : ∀ e ∈ o.after, Region.binds .any e = true → listed.getD e.on false = true := by
        intro e he hb
        have h1 := hi2.2
        rw [Array.all_eq_true'] at h1
        have := h1 e he
        rw [hb] at this
        simpa using this
      obtain ⟨hg, _, _⟩ := setB_at2 hB ho
      have hwp := hstep i o ho b _ w a hW hun hdep hS
      unfold wpOp
      rw [ho]
      have hw : Region.wanted o (yielded ops a.tmps) = true := by simp [Region.wanted, hg]
      simp only [hw, if_true]
      left
      refine Oper.wp_mono ?_ hwp
      rintro a' w' ⟨b', hv, rfl, hW'⟩
      have hSe : (fun j => (listed.setIfInBounds i true).getD j false) = fun j => (listed.getD j false || j == i) := by
        funext j
        by_cases e : j = i
        · subst e
          simp [Array.getD_eq_getD_getElem?, hs, hlt]
        · simp [Array.getD_eq_getD_getElem?, Ne.symm e, e]
      refine wpAny_set2 a0 v W hB hstep hend fuel _ _ _ b' (by simpa using hs) ?_ (by rw [hSe]; exact hS.put2 hB ho hv) (by rw [hSe]; exact hW')
      have hfe : (List.range ops.size).filter (fun j => !(listed.setIfInBounds i true).getD j false) = ((List.range ops.size).filter (fun j => !listed.getD j false)).erase i := by
        have hnd : ((List.range ops.size).filter (fun j => !listed.getD j false)).Nodup := List.nodup_range.filter _
        rw [hnd.erase_eq_filter, List.filter_filter]
        apply List.filter_congr
        intro j _
        have h9 : (listed.setIfInBounds i true).getD j false = (listed.getD j false || j == i) := congrFun hSe j
        rw [h9]
        have e1 : ∀ c : Bool, (!(c || j == i)) = (j != i && !c) := fun c => by cases c <;> cases h : (j == i) <;> simp [bne, h]
        rw [e1]
      rw [hfe, List.length_erase_of_mem (List.mem_filter.2 ⟨hi1, by rw [hun]; rfl⟩), hf]
      rfl
/-- THE REGION -/
theorem region_setE2 {P : Program} {ops : Array Oper} {Q : Exit → Act → World → Prop} {id : Nat} {w : World} (hm : P.follows .mixedOrders = true) (a0 : Act) {B : Type} (v : B → Nat → Value) (W : B → (Nat → Bool) → World → Prop) (hB : setB2 ops a0.tmps.size = true)
    (b0 : B) (h0 : W b0 (fun _ => false) { w with drawn := w.drawn + 1 })
    (hstep : ∀ (i : Nat) (o : Oper), ops[i]? = some o → ∀ (b : B) (S : Nat → Bool) (w : World) (a : Act), W b S w → S i = false → (∀ e ∈ o.after, Region.binds .any e = true → S e.on = true) → SlotsIn ops a0 S (v b) a →
      o.wp P a w (fun a' w' => ∃ b', (∀ j, S j = true → v b' j = v b j) ∧ a' = a.put o.dst (v b' i) ∧ W b' (fun j => S j || j == i) w') Q)
    (hend : ∀ (b : B) (w : World) (a : Act) (S : Nat → Bool), (∀ j, j < ops.size → S j = true) → SlotsIn ops a0 S (v b) a → W b S w → Q .normal a w) : (Code.region id ops true).wp P Q a0 w := by
  have hS : (fun j => (Array.replicate ops.size false).getD j false) = fun _ => false := by
    funext j
    rw [Array.getD_eq_getD_getElem?, Array.getElem?_replicate]
    split <;> rfl
  refine wp_region_any hm (wpAny_set2 a0 v W hB hstep hend ops.size _ a0 _ b0 (by simp) ?_ ?_ (by rw [hS]; exact h0))
  · have : (List.range ops.size).filter (fun i => !(Array.replicate ops.size false).getD i false) = List.range ops.size := by
      rw [List.filter_eq_self]
      intro j _
      rw [congrFun hS j]; rfl
    rw [this]; simp
  · rw [hS]
    exact ⟨rfl, rfl, fun j oj d _ _ h => (by cases h), fun d _ => rfl⟩
/-- the same, where it is known ahead what the operation hands back -/
theorem region_set2 {P : Program} {ops : Array Oper} {Q : Exit → Act → World → Prop} {id : Nat} {w : World} (hm : P.follows .mixedOrders = true) (a0 : Act) {B : Type} (v : B → Nat → Value) (W : B → (Nat → Bool) → World → Prop) (hB : setB2 ops a0.tmps.size = true)
    (b0 : B) (h0 : W b0 (fun _ => false) { w with drawn := w.drawn + 1 })
    (hstep : ∀ (i : Nat) (o : Oper), ops[i]? = some o → ∀ (b : B) (S : Nat → Bool) (w : World) (a : Act), W b S w → S i = false → (∀ e ∈ o.after, Region.binds .any e = true → S e.on = true) → SlotsIn ops a0 S (v b) a →
      ∃ b', (∀ j, S j = true → v b' j = v b j) ∧ o.wp P a w (fun a' w' => a' = a.put o.dst (v b' i) ∧ W b' (fun j => S j || j == i) w') Q)
    (hend : ∀ (b : B) (w : World) (a : Act) (S : Nat → Bool), (∀ j, j < ops.size → S j = true) → SlotsIn ops a0 S (v b) a → W b S w → Q .normal a w) : (Code.region id ops true).wp P Q a0 w := by
  refine region_setE2 hm a0 v W hB b0 h0 (fun i o ho b S w a hW hSi hdep hS => ?_) hend
  obtain ⟨b', h1, h2⟩ := hstep i o ho b S w a hW hSi hdep hS
  refine Oper.wp_mono ?_ h2
  rintro a' w' ⟨e, h3⟩
  exact ⟨b', h1, e, h3⟩
theorem putAll_slots2 {ops : Array Oper} {a0 : Act} {v : Nat → Value} (hB : setB2 ops a0.tmps.size = true) : ∀ (l : List Oper) (n : Nat) (a : Act), n + l.length = ops.size → (∀ i o, l[i]? = some o → ops[n + i]? = some o) → SlotsIn ops a0 (fun j => decide (j < n)) v a → SlotsIn ops a0 (fun j => decide (j < ops.size)) v (putAll v n l a)
  | [], n, a, hn, _, h => by rw [← hn]; simpa [putAll] using h
  | o :: r, n, a, hn, hl, h => by
    refine putAll_slots2 hB r (n + 1) _ (by rw [← hn]; simp; omega) (fun i o' e => ?_) ?_
    · have := hl (i + 1) o' (by simpa using e)
      rw [show n + 1 + i = n + (i + 1) by omega]; exact this
    · have := h.put2 (v' := v) hB (hl 0 o (by simp)) (fun _ _ => rfl)
      have e : (fun j => decide (j < n + 1)) = fun j => (decide (j < n) || j == n + 0) := by
        funext j
        by_cases h1 : j < n
        · simp [h1]; omega
        · by_cases h2 : j = n
          · simp [h2]
          · have h3 : ¬ j < n + 1 := by omega
            simp [h1, h2, h3]
      rw [e]
      exact this
theorem SlotsIn.all2 {ops : Array Oper} {a0 a : Act} {S : Nat → Bool} {v : Nat → Value} (hB : setB2 ops a0.tmps.size = true) (h : SlotsIn ops a0 S v a) (hall : ∀ j, j < ops.size → S j = true) : a = putAll v 0 ops.toList a0 := by
  refine SlotsIn.uniq (S := fun j => decide (j < ops.size)) (ops := ops) (a0 := a0) (v := v) ?_ (putAll_slots2 hB ops.toList 0 a0 (by simp) (fun i o e => by rw [Nat.zero_add]; rw [Array.getElem?_toList] at e; exact e) ?_)
  · obtain ⟨h1, h2, h3, h4⟩ := h
    refine ⟨h1, h2, fun j oj d hj hd _ => h3 j oj d hj hd (hall j (Array.getElem?_eq_some_iff.1 hj).1), fun d hd => h4 d fun j oj hj hdj => ?_⟩
    have := hd j oj hj hdj
    have hlt := (Array.getElem?_eq_some_iff.1 hj).1
    simp only [decide_eq_false_iff_not] at this
    exact absurd hlt this
  · exact ⟨rfl, rfl, fun j oj d _ _ h => by simp at h, fun d _ => rfl⟩
theorem region_setC2 {P : Program} {ops : Array Oper} {Q : Exit → Act → World → Prop} {id : Nat} {w : World} (hm : P.follows .mixedOrders = true) (a0 : Act) {B : Type} (v : B → Nat → Value) (W : B → (Nat → Bool) → World → Prop) (hB : setB2 ops a0.tmps.size = true)
    (b0 : B) (h0 : W b0 (fun _ => false) { w with drawn := w.drawn + 1 })
    (hstep : ∀ (i : Nat) (o : Oper), ops[i]? = some o → ∀ (b : B) (S : Nat → Bool) (w : World) (a : Act), W b S w → S i = false → (∀ e ∈ o.after, Region.binds .any e = true → S e.on = true) → SlotsIn ops a0 S (v b) a → Closed ops S →
      ∃ b', (∀ j, S j = true → v b' j = v b j) ∧ o.wp P a w (fun a' w' => a' = a.put o.dst (v b' i) ∧ W b' (fun j => S j || j == i) w') Q)
    (hend : ∀ (b : B) (w : World) (S : Nat → Bool), (∀ j, j < ops.size → S j = true) → W b S w → Q .normal (putAll (v b) 0 ops.toList a0) w) : (Code.region id ops true).wp P Q a0 w := by
  refine region_set2 hm a0 v (fun b S w => W b S w ∧ Closed ops S) hB b0 ⟨h0, fun j oj _ h => by cases h⟩ ?_ (fun b w a S h1 h2 h3 => by rw [h2.all2 hB h1]; exact hend b w S h1 h3.1)
  intro i o ho b S w a hW hSi hdep hS
  obtain ⟨b', h1, h2⟩ := hstep i o ho b S w a hW.1 hSi hdep hS hW.2
  refine ⟨b', h1, Oper.wp_mono ?_ h2⟩
  rintro a' w' ⟨e0, h3⟩
  refine ⟨e0, h3, fun j oj hj hSj e he hb => ?_⟩
  by_cases hji : j = i
  · subst hji
    rw [ho] at hj
    injection hj with hj
    subst hj
    show (S e.on || e.on == j) = true
    rw [hdep e he hb]; rfl
  · have : S j = true := by simpa [hji] using hSj
    show (S e.on || e.on == i) = true
    rw [hW.2 j oj hj this e he hb]; rfl
end Go.Proofs.YtdlcoilpkelbaaaGreatDoor
namespace Go.Proofs.YtdlcoilpkelbaaaGreatDoor
open Go.RowKit Go.Maps
set_option linter.unusedVariables false

set_option maxHeartbeats 1000000 in
set_option maxRecDepth 40000 in
theorem zone_eq (z : Zn) (us : List Value) (hus : zV z = us) (w : World) : (binOp .eql 23 (.agg us.toArray) (.agg us.toArray)).run Tryz.prog w = .ok (.bool true) w := by
  subst hus
  have hS : Tryz.prog.underlying 23 = some (.struct (Tryz.prog.fieldsOf 23)) := by kernel_rfl
  have hp : Tryz.prog.stoodInHeld 23 = false := by kernel_rfl
  have u3 := Tryz.underlying3
  have u9 := Tryz.underlying9
  have a3 : ∀ w, (isAgg 3).run Tryz.prog w = .ok false w := fun w => by kernel_rfl
  have a9 : ∀ w, (isAgg 9).run Tryz.prog w = .ok false w := fun w => by kernel_rfl
  rw [run_eql_struct, show (10000 : Nat) = 9999 + 1 from rfl, run_equalIn_agg w 9999 23 _ _ hS hp]
  simp only [Program.fieldsOf, Tryz.underlying23, zV]
  simp [Op.eqFields, part, a3, a9, run_equalIn_int (k' := .i64), run_equalIn_string, u3, u9, go_sem]
/-- a struct is read by an operation that waits for a condition, which holds -/
theorem wpList_load_vg {P : Program} {ops : Array Oper} {rest : List Oper} {op : Oper} {a : Act} {w : World} {Q : Exit → Act → World → Prop} (hw : Region.wanted op (yielded ops a.tmps) = true) (ty : TypeId) (x : Operand) (ho : op.op = .load ty x) (g : Nat) (hx : a.eval x = .pointer (some ⟨g, 0, none⟩)) (vs : List Value) (d : TypeDesc)
    (h : RowV w g vs) (hu : P.underlying ty = some d) (hd : d.isRow = true) (hi : (P.info? ty).map (·.size) = some vs.length)
    (hK : wpList P ops Q rest (a.put op.dst (.agg vs.toArray)) w) : wpList P ops Q (op :: rest) a w := by
  refine wpList_step fun K hK2 => ?_
  rw [if_pos hw]
  have hr := exec_load_v (op := op) (a := a) ty x ho g hx vs d h hu hd hi
  unfold Oper.wp
  rw [hr, Oper.upon_value]
  exact hK2 _ _ hK
end Go.Proofs.YtdlcoilpkelbaaaGreatDoor
