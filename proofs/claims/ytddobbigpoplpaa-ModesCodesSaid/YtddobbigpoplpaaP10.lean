/-
  What is proved here: what the program's Expand answers.
-/
import Derived.Test.YtddobbigpoplpaaP9
import Derived.Test.YtddobbigpoplpaaLists
namespace Go.Proofs.Ytddobbigpoplpaa
open Go.RowKit
set_option linter.unusedVariables false

/-- the block g holds the values vs, and no more -/
def RowV (w : World) (g : Nat) (vs : List Value) : Prop := ∃ ty, w.heap[g]? = some (.cells vs.toArray ty (0, 0))
section
variable {w w' : World} {g : Nat} {vs : List Value}
theorem RowV.lt (h : RowV w g vs) : g < w.heap.size := by
  obtain ⟨ty, h⟩ := h
  exact (Array.getElem?_eq_some_iff.1 h).1
theorem RowV.same (h : RowV w g vs) (e : w'.heap[g]? = w.heap[g]?) : RowV w' g vs := by
  obtain ⟨ty, h⟩ := h
  exact ⟨ty, e.trans h⟩
theorem RowV.on (h : RowV w g vs) (hb : Below w.heap.size w w') : RowV w' g vs := h.same (hb.block g h.lt)
theorem RowV.cell (h : RowV w g vs) (k : Nat) : w.cell? ⟨g, k, none⟩ = vs[k]? := by
  obtain ⟨ty, h⟩ := h
  rw [cell_of_row w g k _ ty (0, 0) h, ← Array.getElem?_toList]
theorem RowV.free (h : RowV w g vs) (k : Nat) : w.frozen? ⟨g, k, none⟩ = false := by
  obtain ⟨ty, h⟩ := h
  exact frozen_of_row w g k _ ty h
theorem RowV.set (h : RowV w g vs) (i : Nat) (v : Value) : RowV (w.setCell ⟨g, i, none⟩ v) g (vs.set i v) := by
  obtain ⟨ty, h⟩ := h
  refine ⟨ty, ?_⟩
  rw [heap_setCell_same w g i _ ty _ h]
  congr 2
  apply Array.ext'
  simp
theorem RowV.new {c : Array Value} {t : TypeId} (h : c.toList = vs) : RowV (w.alloc (.cells c t)) w.heap.size vs := by
  refine ⟨t, ?_⟩
  rw [heap_alloc_new]
  congr 2
  rw [← h]
end
def exL (gk : Nat) : Nat → List Value
  | 0 => List.replicate 11 (.slice none 0 0)
  | i + 1 => (exL gk i).set i (.slice (some ⟨gk, i * 16, none⟩) 16 16)
theorem exL_length (gk : Nat) : ∀ i, (exL gk i).length = 11
  | 0 => by simp [exL]
  | i + 1 => by simp [exL, exL_length gk i]
theorem exL_all (gk : Nat) : exL gk 11 = (List.range 11).map fun i => Value.slice (some ⟨gk, i * 16, none⟩) 16 16 := rfl
/-- the keys -/
def keysL (k : List UInt8) : List (List UInt8) := (List.range 11).map (rk k)
theorem keysL_length (k : List UInt8) : (keysL k).length = 11 := by rw [keysL, List.length_map, List.length_range]
def ExpR (w : World) (g6 gs i : Nat) (k : List UInt8) (wr : World) : Prop := w.heap.size ≤ gs ∧ g6 ≠ gs ∧ Below w.heap.size w wr ∧ RowB wr g6 (kyL k 10) ∧ RowV wr gs (exL g6 i)
theorem ExpR.step {w wr : World} {g6 gs i : Nat} {k : List UInt8} (h : ExpR w g6 gs i k wr) : ExpR w g6 gs (i + 1) k (wr.setCell ⟨gs, i, none⟩ (.slice (some ⟨g6, i * 16, none⟩) 16 16)) := by
  obtain ⟨a, b, c, d, e⟩ := h
  exact ⟨a, b, c.setCell a _, d.far b _, e.set i _⟩
theorem ExpR.cell {w wr : World} {g6 gs i : Nat} {k : List UInt8} (h : ExpR w g6 gs i k wr) (hi : i < 11) : ∃ v, wr.cell? ⟨gs, i, none⟩ = some v := by
  have hl : i < (exL g6 i).length := by rw [exL_length]; exact hi
  exact ⟨_, (h.2.2.2.2.cell i).trans (List.getElem?_eq_getElem hl)⟩
theorem ExpR.gives {w wr : World} {g6 gs : Nat} {k : List UInt8} (h : ExpR w g6 gs 11 k wr) (hk : k.length = 16) : GivesL w (keysL k) 0 (.returned (.tuple #[.slice (some ⟨gs, 0, none⟩) 11 11, .int .i64 0])) wr := by
  obtain ⟨a, b, c, d, e⟩ := h
  refine ⟨some ⟨gs, 0, none⟩, 11, by rw [keysL_length], ⟨exL g6 11, .inr ⟨gs, 0, rfl, e.lt, fun j hj => by rw [Nat.zero_add, e.cell]⟩, ?_, ?_⟩, c⟩
  · rw [exL_length, keysL_length]
  · intro i l hl
    have hi : i < 11 := by have := (List.getElem?_eq_some_iff.1 hl).1; rwa [keysL_length] at this
    have hl2 : l = rk k i := by
      rw [keysL, List.getElem?_map, List.getElem?_range hi] at hl
      simpa using hl.symm
    subst hl2
    refine ⟨some ⟨g6, i * 16, none⟩, 16, ?_, ?_⟩
    · rw [exL_all, List.getElem?_map, List.getElem?_range hi, rk_len16 k hk i]
      rfl
    · have hr := key_range d hk i (by omega)
      exact .inr ⟨g6, i * 16, rfl, d.lt, fun j hj => by
        rw [hr j _ (List.getElem?_eq_getElem hj), List.getElem?_eq_getElem hj]⟩

theorem make_11 (w : World) : (Instr.makeSlice 27 (.int .i64 11) (.int .i64 11)).run Try.prog w = .ok (.slice (some ⟨w.heap.size, 0, none⟩) 11 11) (w.alloc (.cells (List.replicate 11 (Value.slice none 0 0)).toArray 26)) := by kernel_rfl
theorem wpList_make_v {P : Program} {ops : Array Oper} {rest : List Oper} {op : Oper} {a : Act} {w : World} {Q : Exit → Act → World → Prop} (hgd : op.guard = none) (ty : TypeId) (x y : Operand) (ho : op.op = .makeSlice ty x y) (vx vy : Value) (hx : a.eval x = vx) (hy : a.eval y = vy)
    (vs : List Value) (n : Nat) (e : TypeId) (hm : (Instr.makeSlice ty vx vy).run P w = .ok (.slice (some ⟨w.heap.size, 0, none⟩) n n) (w.alloc (.cells vs.toArray e)))
    (hK : ∀ g w', Fresh w w' g → RowV w' g vs → wpList P ops Q rest (a.put op.dst (.slice (some ⟨g, 0, none⟩) n n)) w') : wpList P ops Q (op :: rest) a w := by
  refine wpList_plain hgd fun K hK2 => ?_
  unfold Oper.wp execOp
  simp only [ho, hx, hy, Sem.run_bind, hm, Result.andThen_ok]
  exact hK2 _ _ (hK _ _ ⟨rfl, _, rfl⟩ (RowV.new (by simp)))
set_option maxRecDepth 40000 in
set_option maxHeartbeats 400000 in
theorem aes_exp (k : List UInt8) (A : Option Addr) (c : Nat) (w : World) (hk : k.length = 16) (h1 : Sees w w.heap.size A (Us k)) :
    Calls Try.prog 18 #[.slice A 16 c] w (GivesL w (keysL k) 0) := by
  obtain ⟨b1, o1, rfl, hlt1, hr1⟩ := sees_range h1 hk
  have HL := Lib.hid hk
  have HR1 := Lib.hid (fun (w' : World) (h : Below w.heap.size w w') => range_below hr1 hlt1 h)
  clear hk h1 hr1
  have ha1 := arr_at (some ⟨b1, o1, none⟩) c
  have hsl := slice_all
  go_enter Try.func18, Try.ntmps18
  go_wp2_with (first
    | (go_at_call 44; ((with_reducible refine (prog_subs _).mono ?_); rintro e w2 ⟨rfl, hb⟩); have HB2 := Lib.hid hb; clear hb)
    | ((with_reducible refine wpList_alloc_b (op := ⟨some 4, _, _, _, _, _⟩) rfl 46 rfl 256 info_t ?_); intro g5 w3 hf hr; have H3 := Lib.hid (And.intro hf hr); clear hf hr)
    | ((with_reducible refine wpList_store_all (ty := 46) (x := .tmp 4) (y := .tmp 11) (g := g5) (l := List.replicate 256 0) (l2 := sb) rfl rfl ?hx ?hy H3.out.2 tab_len (sz_t sb_length) ?_); (case hx => go_simp); (case hy => go_simp); intro w4 hw hr; have H4 := Lib.hid (And.intro hw hr); clear hw hr; have HB4 := Lib.hid (H4.out.1.bl (H3.out.1.bl HB2.out) (H3.out.1.ge HB2.out)); have HT := Lib.hid (H4.out.2.tab sb_length); clear HB2 H3 H4; have HR := Lib.hid (HR1.out _ HB4.out))
    | (with_reducible refine wpList_load_b (op := ⟨some 14, _, _, _, _, _⟩) rfl 51 (.tmp 13) rfl b1 (o1) rfl (k) 16 5 HR.out Try.underlying51 (sz_q HL.out) ?_)
    | (go_at_call 46; ((with_reducible refine (prog_exp k g5 _ HL.out HT.out).mono ?_); rintro e w5 ⟨rfl, hb⟩); have HB5 := Lib.hid hb; clear hb)
    | ((with_reducible refine wpList_alloc_b (op := ⟨some 5, _, _, _, _, _⟩) rfl 52 rfl 176 info_k ?_); intro g6 w6 hf hr; have H6 := Lib.hid (And.intro hf hr); clear hf hr)
    | ((with_reducible refine wpList_store_all (ty := 52) (x := .tmp 5) (y := .tmp 15) (g := g6) (l := List.replicate 176 0) (l2 := kyL k 10) rfl rfl ?hx ?hy H6.out.2 (ky_len10 k HL.out) (ky_size k HL.out 10 (by decide)) ?_); (case hx => go_simp); (case hy => go_simp); intro w7 hw hr; have H7 := Lib.hid (And.intro hw hr); clear hw hr; have HB7 := Lib.hid (H7.out.1.bl (H6.out.1.bl (below_on HB4.out HB5.out)) (H6.out.1.ge (below_on HB4.out HB5.out))); have HK := Lib.hid H7.out.2; clear HB4 HT HR HB5 H6 H7)
    | ((with_reducible refine wpList_make_v rfl 27 _ _ rfl (.int .i64 11) (.int .i64 11) ?hx ?hy (List.replicate 11 (.slice none 0 0)) 11 26 (make_11 _) ?_); (case hx => go_simp); (case hy => go_simp); intro gs w8 hf hr; have HI := Lib.hid (show ExpR w g6 gs 0 k w8 from ⟨hf.ge HB7.out, HK.out.ne hf, hf.bl HB7.out, HK.out.fresh hf, hr⟩); clear hf hr))
  clear HK HB7 ha1
  go_loopw [7, 17] (fun _ i wr => ∃ n : Nat, n ≤ 11 ∧ i = .int .i64 (n : Int) ∧ Hid (ExpR w g6 gs n k wr)) (fun _ i _ => 11 - (intOf i).toNat)
  case atStart => exact ⟨0, by decide, rfl, HI⟩
  case round =>
    clear HI
    obtain ⟨n, hn, rfl, HS⟩ := hrel
    by_cases h11 : n < 11
    · obtain ⟨v, hv⟩ := HS.out.cell h11
      have yf := HS.out.2.2.2.2.free n
      have r1 : (n : Int) < 11 := by omega
      go_wp2_with fail
      go_roundw
      case rel => exact ⟨n + 1, by omega, by go_num, Lib.hid HS.out.step⟩
      case measure => simp [intOf]; omega
    · obtain rfl : n = 11 := by omega
      go_wp2_with fail
      go_ret2
      exact HS.out.gives HL.out
theorem aes_exp_bad (A : Option Addr) (n c : Nat) (w : World) (h : n ≠ 16) (m : n ≤ 140737488351232) : Calls Try.prog 18 #[.slice A n c] w (GivesL w [] 2) := by
  have H := Lib.hid (show GivesL w [] 2 (.returned (.tuple #[.slice none 0 0, .int .i64 2])) w from ⟨none, 0, by simp, SeesL.nil_, Below.refl _ _⟩)
  have d2 : ((n : Int) != 16) = true := by simp; omega
  have d3 : ((n : Int) == 16) = false := by simp; omega
  go_enter Try.func18, Try.ntmps18
  go_wp2
  go_ret2
  exact H.out

end Go.Proofs.Ytddobbigpoplpaa
