/-
  What is proved here: what the reference's Ready answers: a pointer to both tables and the keys; the reference's Encrypt and Decrypt for 16 bytes.
-/
import Derived.Test.YtddobbigpoplpaaR10
namespace Go.Proofs.Ytddobbigpoplpaa
open Go.RowKit
set_option linter.unusedVariables false

/-- the cells of a ready cipher -/
def StC (tb bk : List UInt8) (v : Value) : List Value := Us tb ++ Us bk ++ [v]
def RowC (w : World) (g : Nat) (tb bk : List UInt8) (v : Value) : Prop := ∃ ty, w.heap[g]? = some (.cells (StC tb bk v).toArray ty (0, 0))
section
variable {w w' : World} {g : Nat} {tb bk : List UInt8} {v : Value}
theorem RowC.lt (h : RowC w g tb bk v) : g < w.heap.size := by
  obtain ⟨ty, h⟩ := h
  exact (Array.getElem?_eq_some_iff.1 h).1
theorem RowC.same (h : RowC w g tb bk v) (e : w'.heap[g]? = w.heap[g]?) : RowC w' g tb bk v := by
  obtain ⟨ty, h⟩ := h
  exact ⟨ty, e.trans h⟩
theorem RowC.on (h : RowC w g tb bk v) (hb : Below w.heap.size w w') : RowC w' g tb bk v := h.same (hb.block g h.lt)
theorem RowC.drew (h : RowC w g tb bk v) : RowC w.drew g tb bk v := h
theorem RowC.free (h : RowC w g tb bk v) (k : Nat) : w.frozen? ⟨g, k, none⟩ = false := by
  obtain ⟨ty, h⟩ := h
  exact frozen_of_row w g k _ ty h
theorem RowC.at_ (h : RowC w g tb bk v) (k : Nat) : w.cell? ⟨g, k, none⟩ = (StC tb bk v)[k]? := by
  obtain ⟨ty, h⟩ := h
  rw [cell_of_row w g k _ ty (0, 0) h, ← Array.getElem?_toList]
theorem RowC.cell1 (h : RowC w g tb bk v) {j : Nat} (hj : j < tb.length) : w.cell? ⟨g, j, none⟩ = some (.int .u8 ((tb.getD j 0).toNat : Int)) := by
  rw [h.at_, StC, List.append_assoc, List.getElem?_append_left (by rw [Us_length]; exact hj), Us_get hj, getD_b hj]
theorem RowC.cell2 (h : RowC w g tb bk v) (ht : tb.length = 256) {j : Nat} (hj : j < bk.length) : w.cell? ⟨g, 256 + j, none⟩ = some (.int .u8 ((bk.getD j 0).toNat : Int)) := by
  rw [h.at_, StC, List.append_assoc, List.getElem?_append_right (by rw [Us_length]; omega), Us_length, ht, Nat.add_sub_cancel_left, List.getElem?_append_left (by rw [Us_length]; exact hj), Us_get hj, getD_b hj]
theorem RowC.cell3 (h : RowC w g tb bk v) (ht : tb.length = 256) (hk : bk.length = 256) : w.cell? ⟨g, 512, none⟩ = some v := by
  rw [h.at_, StC, List.getElem?_append_right (by rw [List.length_append, Us_length, Us_length]; omega), List.length_append, Us_length, Us_length, ht, hk]
  rfl
theorem RowC.set2 (h : RowC w g tb bk v) (ht : tb.length = 256) {i : Nat} (hi : i < bk.length) (x : UInt8) : RowC (w.setCell ⟨g, 256 + i, none⟩ (.int .u8 (x.toNat : Int))) g tb (bk.set i x) v := by
  obtain ⟨ty, h⟩ := h
  refine ⟨ty, ?_⟩
  rw [heap_setCell_same w g (256 + i) _ ty _ h]
  congr 2
  apply Array.ext'
  rw [Array.toList_setIfInBounds]
  show (StC tb bk v).set (256 + i) _ = _
  rw [StC, List.append_assoc, List.set_append_right _ _ (by rw [Us_length]; omega), Us_length, ht, Nat.add_sub_cancel_left, List.set_append_left _ _ (by rw [Us_length]; exact hi), StC, ← Us_set, List.append_assoc]
  rfl
theorem RowC.set3 (h : RowC w g tb bk v) (ht : tb.length = 256) (hk : bk.length = 256) (u : Value) : RowC (w.setCell ⟨g, 512, none⟩ u) g tb bk u := by
  obtain ⟨ty, h⟩ := h
  refine ⟨ty, ?_⟩
  rw [heap_setCell_same w g 512 _ ty _ h]
  congr 2
  apply Array.ext'
  rw [Array.toList_setIfInBounds]
  show (StC tb bk v).set 512 _ = _
  rw [StC, List.set_append_right _ _ (by rw [List.length_append, Us_length, Us_length]; omega), List.length_append, Us_length, Us_length, ht, hk]
  rfl
theorem RowC.new {c : Array Value} {t : TypeId} (h : c.toList = StC tb bk v) : RowC (w.alloc (.cells c t)) w.heap.size tb bk v := by
  refine ⟨t, ?_⟩
  rw [heap_alloc_new]
  congr 2
  rw [← h]
theorem RowC.tab1 (h : RowC w g tb bk v) (ht : tb.length = 256) : TabAt w g 0 tb := ⟨h.lt, fun j hj => by rw [Nat.zero_add]; exact h.cell1 (by omega)⟩
theorem RowC.tab2 (h : RowC w g tb bk v) (ht : tb.length = 256) (hk : bk.length = 256) : TabAt w g 256 bk := ⟨h.lt, fun j hj => h.cell2 ht (by omega)⟩
end
/-- an aggregate is put into a block of its own -/
theorem wpList_box_c {P : Program} {ops : Array Oper} {rest : List Oper} {op : Oper} {a : Act} {w : World} {Q : Exit → Act → World → Prop} (hgd : op.guard = none) (ty : TypeId) (x : Operand) (ho : op.op = .box ty x) (tb bk : List UInt8) (v : Value) (hx : a.eval x = .agg (StC tb bk v).toArray)
    (hK : ∀ g w', Fresh w w' g → RowC w' g tb bk v → wpList P ops Q rest (a.put op.dst (.pointer (some ⟨g, 0, none⟩))) w') : wpList P ops Q (op :: rest) a w := by
  refine wpList_plain hgd fun K hK2 => ?_
  have hr : (Instr.box ty (.agg (StC tb bk v).toArray)).run P w = .ok (.pointer (some ⟨w.heap.size, 0, none⟩)) (w.alloc (.cells (StC tb bk v).toArray ty)) := by
    simp [Instr.box, newVar, newRow, newObj, Value.cells]
    rfl
  unfold Oper.wp execOp
  simp only [ho, hx, Sem.run_bind, hr, Result.andThen_ok]
  exact hK2 _ _ (hK _ _ ⟨rfl, _, rfl⟩ (RowC.new rfl))

/-- a ready cipher lies in memory -/
def Rdy (w : World) (k : List UInt8) (gc : Nat) : Prop := ∃ AK cK, TabAt w gc 0 sb ∧ TabAt w gc 256 isb ∧ w.cell? ⟨gc, 512, none⟩ = some (.slice AK 11 cK) ∧ SeesL w w.heap.size AK (keysL k)
theorem Rdy.on {w w' : World} {k : List UInt8} {gc : Nat} (h : Rdy w k gc) (hb : Below w.heap.size w w') : Rdy w' k gc := by
  obtain ⟨AK, cK, h1, h2, h3, h4⟩ := h
  exact ⟨AK, cK, h1.on hb, h2.on hb, (hb.cell (p := ⟨gc, 512, none⟩) h1.1).trans h3, h4.on hb⟩
def ReadyA (w : World) (k : List UInt8) (e : Ending) (w' : World) : Prop := ∃ gc, e = .returned (.pointer (some ⟨gc, 0, none⟩)) ∧ Rdy w' k gc ∧ Below w.heap.size w w'
theorem built_c : Try.prog.built 76 [(0, .agg (Us sb).toArray)] = some (StC sb (List.replicate 256 0) (.slice none 0 0)).toArray := by kernel_rfl
theorem rvL_succ (k : Nat) : rvL (k + 1) = (rvL k).set (sb.getD k 0).toNat (UInt8.ofNat k) := rfl

theorem wpList_build_st {ops : Array Oper} {rest : List Oper} {op : Oper} {a : Act} {w : World} {Q : Exit → Act → World → Prop} (hgd : op.guard = none) (x : Operand) (ho : op.op = .build 76 #[(0, x)]) (hx : a.eval x = .agg (Us sb).toArray)
    (hK : wpList Try.prog ops Q rest (a.put op.dst (.agg (StC sb (List.replicate 256 0) (.slice none 0 0)).toArray)) w) : wpList Try.prog ops Q (op :: rest) a w := by
  refine wpList_plain hgd fun K hK2 => ?_
  have hr := run_build (P := Try.prog) w 76 #[(0, .agg (Us sb).toArray)] _ built_c
  unfold Oper.wp execOp
  simp only [ho, List.map_toArray, List.map_cons, List.map_nil, hx, Sem.run_bind, hr, Result.andThen_ok]
  exact hK2 _ _ hK
/-- what lies in memory is seen on when a cell that is none of it turns -/
theorem Sees.apart {w : World} {B : Nat} {A : Option Addr} {cs : List Value} {p : Addr} {z u : Value} (h : Sees w B A cs) (hz : w.cell? p = some z) (hne : ∀ (j : Nat) (v : Value), cs[j]? = some v → v ≠ z) : Sees (w.setCell p u) B A cs := by
  rcases h with h | ⟨b, off, e, hb, hc⟩
  · exact .inl h
  · refine .inr ⟨b, off, e, hb, fun j hj => ?_⟩
    rw [← hc j hj]
    refine World.cell?_setCell_other _ _ _ _ (fun e2 => ?_)
    have h1 := hc j hj
    rw [← e2, hz] at h1
    exact hne j z h1.symm rfl
theorem SeesL.apart {w : World} {B : Nat} {A : Option Addr} {ls : List (List UInt8)} {p : Addr} {u : Value} (h : SeesL w B A ls) (hz : w.cell? p = some (.slice none 0 0)) (hne : ∀ x ∈ ls, x.length ≠ 0) : SeesL (w.setCell p u) B A ls := by
  obtain ⟨vs, h1, h2, h3⟩ := h
  refine ⟨vs, h1.apart hz (fun j v hv => ?_), h2, fun i l hl => ?_⟩
  · have hj : j < ls.length := by rw [← h2]; exact (List.getElem?_eq_some_iff.1 hv).1
    obtain ⟨A2, c2, h4, _⟩ := h3 j ls[j] (List.getElem?_eq_getElem hj)
    rw [hv] at h4
    injection h4 with h4
    subst h4
    intro e
    injection e with _ e2 _
    exact hne _ (List.getElem_mem hj) e2
  · obtain ⟨A2, c2, h4, h5⟩ := h3 i l hl
    exact ⟨A2, c2, h4, h5.apart hz (fun j v hv => by
      rw [Us, List.getElem?_map] at hv
      cases hq : l[j]? with
      | none => rw [hq] at hv; cases hv
      | some x => rw [hq] at hv; injection hv with hv; subst hv; intro e; cases e)⟩
/-- what Ready's loop keeps -/
def RyR (w : World) (g k : Nat) (wr : World) : Prop := w.heap.size ≤ g ∧ Below w.heap.size w wr ∧ RowC wr g sb (rvL k) (.slice none 0 0)
theorem RyR.drew {w wr : World} {g k : Nat} (h : RyR w g k wr) : RyR w g k wr.drew := ⟨h.1, h.2.1.drew, h.2.2.drew⟩
theorem RyR.step {w wr : World} {g k : Nat} {v : UInt8} (h : RyR w g k wr) (hv : v = sb.getD k 0) (hk : k < 256) : RyR w g (k + 1) (wr.setCell ⟨g, 256 + v.toNat, none⟩ (.int .u8 (k : Int))) := by
  have e : (k : Int) = ((UInt8.ofNat k).toNat : Int) := by rw [UInt8.toNat_ofNat']; omega
  rw [e]
  refine ⟨h.1, h.2.1.setCell (p := ⟨g, 256 + v.toNat, none⟩) h.1 _, ?_⟩
  rw [rvL_succ, ← hv]
  exact h.2.2.set2 sb_length (by rw [rvL_length]; exact v.toNat_lt) _

set_option maxRecDepth 40000 in
set_option maxHeartbeats 1000000 in
theorem ref_ready (k : List UInt8) (A : Option Addr) (c : Nat) (w : World) (hk : k.length = 16) (hs : Sees w w.heap.size A (Us k)) :
    Calls Try.prog 50 #[.slice A 16 c] w (ReadyA w k) := by
  have HL := Lib.hid (And.intro hk hs)
  clear hk hs
  go_enter Try.func50, Try.ntmps50
  go_wp2_with (first
    | (go_at_call 47; ((with_reducible refine (ref_table _).mono ?_); rintro e w1 ⟨rfl, hb⟩); have HB1 := Lib.hid hb; clear hb)
    | (with_reducible refine wpList_build_st (op := ⟨some 6, _, _, _, _, _⟩) rfl (.tmp 5) rfl rfl ?_)
    | ((with_reducible refine wpList_box_c (op := ⟨some 7, _, _, _, _, _⟩) rfl 76 (.tmp 6) rfl sb (List.replicate 256 0) (.slice none 0 0) rfl ?_); intro g w2 hf hr; have HI := Lib.hid (show RyR w g 0 w2 from ⟨hf.ge HB1.out, hf.bl HB1.out, hr⟩); clear hf hr))
  go_loopw [4] (fun i wr => ∃ n : Nat, n ≤ 256 ∧ i = .int .i64 (n : Int) ∧ Hid (RyR w g n wr)) (fun i _ => 256 - (intOf i).toNat)
  case atStart => exact ⟨0, by decide, rfl, HI⟩
  case round =>
    clear HI
    obtain ⟨n, hn, rfl, HS⟩ := hrel
    by_cases h256 : n < 256
    · obtain ⟨v, hv⟩ : ∃ v, v = sb.getD n 0 := ⟨_, rfl⟩
      have y1 : wr.cell? ⟨g, n, none⟩ = some (.int .u8 (v.toNat : Int)) := by rw [hv]; exact HS.out.2.2.cell1 (by rw [sb_length]; exact h256)
      obtain ⟨u, hu⟩ : ∃ u, wr.cell? ⟨g, 256 + v.toNat, none⟩ = some u := ⟨_, HS.out.2.2.cell2 sb_length (by rw [rvL_length]; exact v.toNat_lt)⟩
      have yf := HS.out.2.2.free (256 + v.toNat)
      have HV := Lib.hid hv
      have hvl := v.toNat_lt
      have r1 : (n : Int) < 256 := by omega
      clear hv
      go_wp2_with fail
      have q1 : IntKind.u8.wrap (n : Int) = (n : Int) := by rw [IntKind.wrap_u8]; omega
      have q2 : (n : Int) % 256 = (n : Int) := by omega
      have q3 : IntKind.i64.wrap (n : Int) = (n : Int) := by rw [IntKind.wrap_i64]; omega
      have r2 : (v.toNat : Int) < 256 := by omega
      go_still_tail 12, (by kernel_rfl)
      change wpList _ _ _ _ _ wr.drew
      have hu' : wr.drew.cell? ⟨g, 256 + v.toNat, none⟩ = some u := hu
      have yf' : wr.drew.frozen? ⟨g, 256 + v.toNat, none⟩ = false := yf
      have HS2 := Lib.hid HS.out.drew
      clear HS y1 hu yf
      generalize wr.drew = w5 at *
      go_wp2_with fail
      go_roundw
      case rel => exact ⟨n + 1, by omega, by go_num, Lib.hid (HS2.out.step HV.out h256)⟩
      case measure => simp [intOf]; omega
    · have hn256 : n = 256 := by omega
      have d256 : ¬ ((n : Int) < 256) := by omega
      have HR := Lib.hid (show w.heap.size ≤ g ∧ Below w.heap.size w wr ∧ RowC wr g sb isb (.slice none 0 0) from by
        have h := HS.out
        rw [hn256] at h
        exact ⟨h.1, h.2.1, by have h2 := h.2.2; rw [rv_all] at h2; exact h2⟩)
      have HK := Lib.hid (show Sees wr wr.heap.size A (Us k) from (HL.out.2.on HR.out.2.1))
      have HT := Lib.hid (HR.out.2.2.tab1 sb_length)
      clear HS hn256 h256 hn
      go_wp2_with (go_at_call 48; ((with_reducible refine (ref_exp k g A _ _ HL.out.1 HK.out HT.out).mono ?_); rintro e w6 ⟨AK, cK, rfl, hsl, hb⟩); have H6 := Lib.hid (show RowC w6 g sb isb (.slice none 0 0) ∧ Below w.heap.size w w6 ∧ SeesL w6 w6.heap.size AK (keysL k) from ⟨HR.out.2.2.on hb, below_on HR.out.2.1 hb, hsl⟩); have y7 := H6.out.1.cell3 sb_length isb_length; have y8 := H6.out.1.free 512; clear hsl hb)
      have HF := Lib.hid (show ReadyA w k (.returned (.pointer (some ⟨g, 0, none⟩))) (w6.setCell ⟨g, 512, none⟩ (.slice AK 11 cK)) from by
        have hr := H6.out.1.set3 sb_length isb_length (.slice AK 11 cK)
        refine ⟨g, rfl, ⟨AK, cK, hr.tab1 sb_length, hr.tab2 sb_length isb_length, hr.cell3 sb_length isb_length, ?_⟩, H6.out.2.1.setCell (p := ⟨g, 512, none⟩) HR.out.1 _⟩
        have hz : (w6.setCell ⟨g, 512, none⟩ (.slice AK 11 cK)).heap.size = w6.heap.size := by simp [World.setCell]
        rw [hz]
        refine H6.out.2.2.apart (H6.out.1.cell3 sb_length isb_length) (fun x hx => ?_)
        simp only [keysL, List.mem_map] at hx
        obtain ⟨i, _, rfl⟩ := hx
        rw [rk_len16 k HL.out.1]
        decide)
      clear H6 y7 y8 HR HK HT HL
      go_ret
      exact HF.out

set_option maxHeartbeats 400000 in
theorem ref_enc16 (k b : List UInt8) (A1 A2 : Option Addr) (c1 c2 : Nat) (w : World) (hk : k.length = 16) (hb : b.length = 16) (h1 : Sees w w.heap.size A1 (Us k)) (h2 : Sees w w.heap.size A2 (Us b)) :
    Calls Try.prog 23 #[.slice A1 16 c1, .slice A2 16 c2] w (Gives w (encL k b) 0) := by
  have HL := Lib.hid (show _ ∧ _ ∧ _ ∧ _ from ⟨hk, hb, h1, h2⟩)
  have HE := Lib.hid (encL_length k b)
  clear hk hb h1 h2
  go_enter Try.func23, Try.ntmps23
  go_wp2_with (first
    | (go_at_call 50; ((with_reducible refine (ref_ready k A1 _ _ HL.out.1 HL.out.2.2.1).mono ?_); rintro e w1 ⟨gc, rfl, ⟨AK, cK, t1, t2, t3, t4⟩, hb⟩); have HR := Lib.hid (show _ ∧ _ ∧ _ from ⟨t1, t3, t4⟩); have H1 := Lib.hid (show Below w.heap.size w w1 ∧ Sees w1 w1.heap.size A2 (Us b) from ⟨hb, HL.out.2.2.2.on hb⟩); clear t1 t2 t3 t4 hb)
    | (go_at_call 51; ((with_reducible refine (ref_menc k b gc AK A2 cK _ _ HL.out.1 HL.out.2.1 HR.out.1 HR.out.2.1 HR.out.2.2 H1.out.2).mono ?_); rintro e w2 ⟨A3, c3, rfl, hs, hb⟩); have H2 := Lib.hid (show Gives w (encL k b) 0 (.returned (.tuple #[.slice A3 16 c3, .int .i64 0])) w2 from ⟨A3, c3, by rw [HE.out], hs, below_on H1.out.1 hb⟩); clear hs hb))
  go_ret2
  exact H2.out
set_option maxHeartbeats 400000 in
theorem ref_dec16 (k b : List UInt8) (A1 A2 : Option Addr) (c1 c2 : Nat) (w : World) (hk : k.length = 16) (hb : b.length = 16) (h1 : Sees w w.heap.size A1 (Us k)) (h2 : Sees w w.heap.size A2 (Us b)) :
    Calls Try.prog 26 #[.slice A1 16 c1, .slice A2 16 c2] w (Gives w (decL k b) 0) := by
  have HL := Lib.hid (show _ ∧ _ ∧ _ ∧ _ from ⟨hk, hb, h1, h2⟩)
  have HE := Lib.hid (decL_length k b)
  clear hk hb h1 h2
  go_enter Try.func26, Try.ntmps26
  go_wp2_with (first
    | (go_at_call 50; ((with_reducible refine (ref_ready k A1 _ _ HL.out.1 HL.out.2.2.1).mono ?_); rintro e w1 ⟨gc, rfl, ⟨AK, cK, t1, t2, t3, t4⟩, hb⟩); have HR := Lib.hid (show _ ∧ _ ∧ _ from ⟨t2, t3, t4⟩); have H1 := Lib.hid (show Below w.heap.size w w1 ∧ Sees w1 w1.heap.size A2 (Us b) from ⟨hb, HL.out.2.2.2.on hb⟩); clear t1 t2 t3 t4 hb)
    | (go_at_call 53; ((with_reducible refine (ref_mdec k b gc AK A2 cK _ _ HL.out.1 HL.out.2.1 HR.out.1 HR.out.2.1 HR.out.2.2 H1.out.2).mono ?_); rintro e w2 ⟨A3, c3, rfl, hs, hb⟩); have H2 := Lib.hid (show Gives w (decL k b) 0 (.returned (.tuple #[.slice A3 16 c3, .int .i64 0])) w2 from ⟨A3, c3, by rw [HE.out], hs, below_on H1.out.1 hb⟩); clear hs hb))
  go_ret2
  exact H2.out

end Go.Proofs.Ytddobbigpoplpaa
