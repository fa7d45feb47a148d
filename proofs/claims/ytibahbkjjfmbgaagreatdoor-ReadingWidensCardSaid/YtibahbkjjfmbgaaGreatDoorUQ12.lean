/-
  What is proved here: words for the reference's Widen: rows that are built within a list that is built; strings that are looked at.
-/
import Derived.Test.YtibahbkjjfmbgaaGreatDoorUQ10
import Derived.Test.YtibahbkjjfmbgaaGreatDoorUQ1
import Derived.Test.YtibahbkjjfmbgaaGreatDoorUA5
import Derived.Test.YtibahbkjjfmbgaaGreatDoorUX6
import Derived.Test.YtibahbkjjfmbgaaGreatDoorUY15
import Derived.Test.YtibahbkjjfmbgaaGreatDoorUY10
import Derived.Test.YtibahbkjjfmbgaaGreatDoorUQ11
import Derived.Deep.QuietTactic
import Derived.BigQuiet
import Derived.Deep.DeepMust
import Derived.Test.YtibahbkjjfmbgaaGreatDoorUQ6
import Derived.Test.YtibahbkjjfmbgaaGreatDoorUQ2
namespace Go.Proofs.YtibahbkjjfmbgaaGreatDoor
open Go.RowKit
set_option linter.unusedVariables false
set_option linter.unusedSimpArgs false
theorem InnR.onB {w w' : World} {base : Nat} {vs : List Value} {Ls : List (List (List UInt8))} (h : InnR w base vs Ls) (hb : Below w.heap.size w w') : InnR w' base vs Ls :=
 ⟨h.1, fun i r hi => by
  obtain ⟨A, c, h1, h2⟩ := h.2.1 i r hi
  exact ⟨A, c, h1, own_on h2 hb⟩, h.2.2⟩
structure OW (w : World) (A : Option Addr) (c j : Nat) (vs : List Value) (Ls : List (List (List UInt8))) (cur : World) : Prop where
 own : cur.ownsRow w.heap.size 25 1 (.slice A j c) j vs
 inn : InnR cur w.heap.size vs Ls
 bl : Below w.heap.size w cur
theorem OW.start (w : World) : OW w none 0 0 [] [] w := ⟨World.ownsRow_nil w _ _ 1, InnR.nil_, Below.refl _ _⟩
theorem OW.on {w cur cur' : World} {A : Option Addr} {c j : Nat} {vs : List Value} {Ls : List (List (List UInt8))} (h : OW w A c j vs Ls cur) (hb : Below cur.heap.size cur cur') : OW w A c j vs Ls cur' :=
 ⟨own_on h.own hb, h.inn.onB hb, below_on h.bl hb⟩
structure RW (w : World) (B : Nat) (A2 : Option Addr) (c2 k : Nat) (xs : List Value) (A : Option Addr) (c j : Nat) (vs : List Value) (Ls : List (List (List UInt8))) (cur : World) : Prop where
 row : cur.ownsRow B 9 1 (.slice A2 k c2) k xs
 ow : OW w A c j vs Ls cur
 le : B ≤ cur.heap.size
 ge : w.heap.size ≤ B
 apart : ∀ u ∈ vs, ∀ g, u.ownBlock = some g → g < B
section
variable {w cur cur' : World} {B c2 k c j : Nat} {A2 A : Option Addr} {xs vs : List Value} {Ls : List (List (List UInt8))}
theorem OW.open_ (h : OW w A c j vs Ls cur) : RW w cur.heap.size none 0 0 [] A c j vs Ls cur :=
 ⟨World.ownsRow_nil cur _ _ 1, h, Nat.le_refl _, h.bl.size, h.inn.bound⟩
theorem RW.on (h : RW w B A2 c2 k xs A c j vs Ls cur) (hb : Below cur.heap.size cur cur') : RW w B A2 c2 k xs A c j vs Ls cur' :=
 ⟨own_on h.row hb, h.ow.on hb, Nat.le_trans h.le hb.size, h.ge, h.apart⟩
theorem RW.push {A3 : Option Addr} {c3 n3 : Nat} {ys : List Value} (h : RW w B A2 c2 k xs A c j vs Ls cur) (h1 : cur'.ownsRow B 9 1 (.slice A3 n3 c3) n3 ys) (h2 : cur.grownBy cur' (Value.slice A2 k c2).ownBlock) : RW w B A3 c3 n3 ys A c j vs Ls cur' := by
 have hbu : ∀ g, (Value.slice A2 k c2).ownBlock = some g → B ≤ g := fun g e => (h.row.lt g e).1
 refine ⟨h1, ⟨?_, ?_, ?_⟩, Nat.le_trans h.le h2.size, h.ge, h.apart⟩
 · exact h.ow.own.kept h2 (ownR_apart h.ow.own h.row (by decide))
 · refine h.ow.inn.keep h2 (fun u hu => ?_)
   rcases hub : u.ownBlock with _ | g
   · exact .inl rfl
   · refine .inr fun e => ?_
     have := h.apart u hu g hub
     have := hbu g e.symm
     omega
 · exact h.ow.bl.grown h2 h.ow.bl.size (fun k' e => Nat.le_trans h.ge (hbu k' e))
theorem RW.close {A3 : Option Addr} {c3 n3 : Nat} {r : List (List UInt8)} (h : RW w B A2 c2 r.length (strV r) A c j vs Ls cur) (h1 : cur'.ownsRow w.heap.size 25 1 (.slice A3 n3 c3) n3 (vs ++ [Value.slice A2 r.length c2])) (h2 : cur.grownBy cur' (Value.slice A j c).ownBlock) :
 OW w A3 c3 n3 (vs ++ [Value.slice A2 r.length c2]) (Ls ++ [r]) cur' := by
 have hin := h.ow.inn.snoc (A := A2) (c := c2) (r := r) (own_base h.row h.ge) (fun u hu g e e2 => by
  have := h.apart u hu g e
  have := (h.row.lt g e2).1
  omega)
 refine ⟨h1, hin.keep h2 (fun u hu => ?_), h.ow.bl.grown h2 h.ow.bl.size (fun k' e => (h.ow.own.lt k' e).1)⟩
 obtain ⟨i, hi⟩ := List.getElem?_of_mem hu
 have hlt2 : i < (Ls ++ [r]).length := by rw [← hin.1]; exact (List.getElem?_eq_some_iff.1 hi).1
 obtain ⟨A', c', g1, g2⟩ := hin.2.1 i _ (List.getElem?_eq_getElem hlt2)
 rw [hi] at g1
 injection g1 with g1
 subst g1
 exact ownR_apart g2 h.ow.own (by decide)
theorem RW.pushA {ob : Obj} {A3 : Option Addr} {c3 n3 : Nat} {ys : List Value} (h : RW w B A2 c2 k xs A c j vs Ls cur) (h1 : cur'.ownsRow B 9 1 (.slice A3 n3 c3) n3 ys) (h2 : (cur.alloc ob).grownBy cur' (Value.slice A2 k c2).ownBlock) : RW w B A3 c3 n3 ys A c j vs Ls cur' :=
 (h.on ((Below.refl _ _).alloc (Nat.le_refl _) _)).push h1 h2
theorem RW.closeA {ob : Obj} {A3 : Option Addr} {c3 n3 : Nat} {r : List (List UInt8)} (h : RW w B A2 c2 k xs A c j vs Ls cur) (hr : xs = strV r) (hk : r.length = k) (h1 : cur'.ownsRow w.heap.size 25 1 (.slice A3 n3 c3) n3 (vs ++ [Value.slice A2 k c2])) (h2 : (cur.alloc ob).grownBy cur' (Value.slice A j c).ownBlock) :
 OW w A3 c3 n3 (vs ++ [Value.slice A2 k c2]) (Ls ++ [r]) cur' := by
 subst hk; subst hr
 exact (h.on ((Below.refl _ _).alloc (Nat.le_refl _) _)).close h1 h2
theorem OW.rdg (h : OW w A c j vs Ls cur) : Rdg cur A Ls := rdg_of_own h.own h.inn
end
theorem S_none {x : List UInt8} : (S x = (⟨#[]⟩ : ByteArray)) ↔ x = [] := by
 constructor
 · intro h
   have h2 : (S x).size = (⟨#[]⟩ : ByteArray).size := by rw [h]
   rw [S_size] at h2
   exact List.eq_nil_of_length_eq_zero h2
 · rintro rfl; rfl
theorem neq_e (x : List UInt8) (b : Bool) (hb : decide (x ≠ []) = b) (p q : Operand) (w : World) : (do eqGuard .neq 9 p q (.string (S x)) (.string ⟨#[]⟩); binOp .neq 9 (.string (S x)) (.string ⟨#[]⟩)).run Tryz.prog w = .ok (.bool b) w := by
 have h := S_none (x := x)
 subst hb
 by_cases hx : x = []
 · subst hx; simp [eqGuard, binOp, go_sem, Op.stringOp, S]
 · have h1 : ¬ S x = (⟨#[]⟩ : ByteArray) := fun e => hx (h.1 e)
   simp [eqGuard, binOp, go_sem, Op.stringOp, hx, S_toList]
theorem eql_e (x : List UInt8) (b : Bool) (hb : decide (x = []) = b) (p q : Operand) (w : World) : (do eqGuard .eql 9 p q (.string (S x)) (.string ⟨#[]⟩); binOp .eql 9 (.string (S x)) (.string ⟨#[]⟩)).run Tryz.prog w = .ok (.bool b) w := by
 have h := S_none (x := x)
 subst hb
 by_cases hx : x = []
 · subst hx; simp [eqGuard, binOp, go_sem, Op.stringOp, S]
 · have h1 : ¬ S x = (⟨#[]⟩ : ByteArray) := fun e => hx (h.1 e)
   simp [eqGuard, binOp, go_sem, Op.stringOp, hx, S_toList]
theorem add_s (x y : List UInt8) (hl : x.length + y.length ≤ 1000000) (p q : Operand) (w : World) : (do eqGuard .add 9 p q (.string (S x)) (.string (S y)); binOp .add 9 (.string (S x)) (.string (S y))).run Tryz.prog w = .ok (.string (S (x ++ y))) w := by
 rw [← S_append]
 have h1 : (S x).size = x.length := S_size x
 have h2 : (S y).size = y.length := S_size y
 simp [eqGuard, binOp, go_sem, Op.stringOp]
 omega
theorem head_s (x : List UInt8) (k : Nat) (hk : k < x.length) (w : World) : (Instr.sliceAt 9 (.string (S (x.drop k))) none (some (.int .i64 1)) none).run Tryz.prog w = .ok (.string (S [x.getD k 0])) w := by
 have h := sl_h (S (x.drop k)) 1 (by rw [S_size, List.length_drop]; omega) w
 have e := ext_one (x.drop k) 0 (by rw [List.length_drop]; omega)
 rw [show (x.drop k).getD 0 0 = x.getD k 0 by simp [List.getD]] at e
 rw [e] at h
 exact h
theorem ix_drop (x : List UInt8) (k : Nat) (hk : k < x.length) (w : World) : (Instr.index 9 (.string (S (x.drop k))) (.int .i64 0)).run Tryz.prog w = .ok (.int .u8 ((x.getD k 0).toNat : Int)) w := by
 have h := str_byte (x.drop k) 0 (by rw [List.length_drop]; omega) w
 rw [show (x.drop k).getD 0 0 = x.getD k 0 by simp [List.getD]] at h
 exact h
theorem tail_s (x : List UInt8) (k : Nat) (hk : k < x.length) (w : World) : (Instr.sliceAt 9 (.string (S (x.drop k))) (some (.int .i64 1)) none none).run Tryz.prog w = .ok (.string (S (x.drop (k + 1)))) w := by
 have h := sl_l (S (x.drop k)) 1 (by rw [S_size, List.length_drop]; omega) w
 have e : (S (x.drop k)).extract 1 (S (x.drop k)).size = S (x.drop (k + 1)) := by
  apply ByteArray.ext
  simp only [S, ByteArray.data_extract]
  apply Array.ext'
  simp only [Array.toList_extract]
  rw [List.extract_eq_take_drop, List.drop_drop]
  rw [List.take_of_length_le]
  show _ ≤ (S (x.drop k)).size - 1
  rw [S_size]; simp; omega
 rw [e] at h
 exact h
def strSz : Value → Nat
 | .string s => s.size
 | _ => 0
def rF (c kd : Nat) : List UInt8 := (simL c).filter fun b => mayK b.toNat kd
def rFit (c kd : Nat) : List UInt8 := if rF c kd = [] then [UInt8.ofNat c] else rF c kd
theorem ref_fit {c kd : Nat} (hk : kd ≤ 2) (hc : c < 256) : sortU (rFit c kd) = fitL c (plcK kd) := by
 have e : rF c kd = fitF c (plcK kd) := by
  unfold rF fitF
  congr 1
  funext b
  rw [may_eq _ hk]
 have e2 : rFit c kd = fitL c (plcK kd) := by unfold rFit fitL; rw [e]
 have e3 : fitL c (plcK kd) = fitL c (plcK kd) := rfl
 rw [e2]
 exact (fit_sorted (k := kd) hc).1
theorem news_one2 (w : World) (v : Value) (t : TypeId) {n : Nat} (hn : n = w.heap.size) : ∀ (j : Nat) (u : Value), [v][j]? = some u → (w.alloc (.cells #[v] t)).cell? (({ block := n, off := 0 } : Addr).add j) = some u := by
 subst hn; exact news_of_one _ _ _
theorem drop_ne {x : List UInt8} {m : Nat} (h : m < x.length) : decide (x.drop m ≠ []) = true := by
 have h2 : (x.drop m).length ≠ 0 := by rw [List.length_drop]; omega
 rw [decide_eq_true_eq]
 intro e
 rw [e] at h2
 exact h2 rfl
theorem flt_le (f : UInt8 → Bool) (x : List UInt8) (m : Nat) (h : m ≤ 4) {b : UInt8} : ((x.take m).filter f).length + [b].length ≤ 1000000 := by
 have h1 := List.length_filter_le f (x.take m)
 rw [List.length_take] at h1
 simp only [List.length_cons, List.length_nil]
 omega
theorem strV_snoc {o : List (List UInt8)} {k : Nat} (h : k < o.length) : strV (o.take (k + 1)) = strV (o.take k) ++ [Value.string (S (o.getD k []))] := by
 rw [List.take_add_one, List.getElem?_eq_getElem h]
 simp only [strV, List.map_append]
 simp [List.getD, h]
theorem take_snocO {O : List (List (List UInt8))} {j : Nat} (h : j < O.length) : O.take (j + 1) = O.take j ++ [O.getD j []] := by
 rw [List.take_add_one, List.getElem?_eq_getElem h]
 simp [List.getD, h]
theorem filt_snoc {x : List UInt8} {m : Nat} (f : UInt8 → Bool) (h : m < x.length) : (x.take (m + 1)).filter f = (x.take m).filter f ++ (if f (x.getD m 0) = true then [x.getD m 0] else []) := by
 have e : x.take (m + 1) = x.take m ++ [x.getD m 0] := by
  rw [List.take_add_one, List.getElem?_eq_getElem h]
  simp [List.getD, h]
 rw [e, List.filter_append]
 congr 1
 by_cases hf : f (x.getD m 0) = true
 · rw [if_pos hf]; simp only [List.filter_cons, hf, if_true, List.filter_nil]
 · rw [if_neg hf]; simp only [List.filter_cons, hf, List.filter_nil]; rfl
set_option maxHeartbeats 12800000 in
set_option maxRecDepth 20000 in
theorem r_widen (X : List (List UInt8)) (A : Option Addr) (n c : Nat) (hn : X.length = n) (w : World) (hG : TabG 1 w) (hs : Strs w A X) :
 Calls Tryz.prog 14 #[.slice A n c] w fun e w' => ∃ A' c', e = .returned (.tuple #[.slice A' (widO X).length c', .int .i64 (widE X)]) ∧ Rdg w' A' (widO X) ∧ Below w.heap.size w w' := by
 obtain ⟨i0, hi, hz0, hz1, hz2⟩ := info_parts info_st
 obtain ⟨i1, hj1, hj2, hj3, hj4⟩ := info_parts info_ss
 obtain ⟨f, hf, hf3⟩ := shape_nat X
 have HS := Lib.hid hs
 have HG := Lib.hid hG
 by_cases hf0 : f = 0
 · subst hf0
   have he : widE X = 2 := by unfold widE; rw [if_pos (by rw [hf]; rfl)]
   have ho : widO X = [] := by unfold widO; rw [he, if_neg (by decide)]
   have HSH := Lib.hid (fun w hs => r_shape X A n c hn 0 (by rw [hf]; rfl) w hs)
   rw [he, ho]
   clear he ho hf hs hG hn hf3
   go_enter Tryz.func14, Tryz.ntmps14
   go_wp2_with (go_at_call 40; ((with_reducible refine (HSH.out _ HS.out).mono ?_); rintro e w1 ⟨rfl, hb⟩); have HB := Lib.hid hb; clear hb)
   go_ret2
   exact ⟨none, 0, rfl, ⟨[], .inl rfl, rfl, fun i r h => by simp at h⟩, HB.out⟩
 ·
  have HSH := Lib.hid (fun w hs => r_shape X A n c hn (f : Int) hf w hs)
  obtain ⟨hf1, hk, hlens⟩ := shape_fmt hf hf0
  have hn3 : n = (fmPl (3 - f)).length := by rw [← hn, show X.length = (X.map List.length).length by simp, hlens]; simp
  have hn4 : n ≤ 3 := by rw [hn3]; rcases hf1 with rfl | rfl | rfl <;> decide
  have hn5 : 2 ≤ n := by rw [hn3]; rcases hf1 with rfl | rfl | rfl <;> decide
  have hrow : ∀ i, i < n → (X.getD i []).length = ((fmPl (3 - f)).getD i []).length ∧ (X.getD i []).length ≤ 44 := fun i hi => by
   have h1 : (X.map List.length).getD i 0 = (X.getD i []).length := by simp [List.getD, show i < X.length by omega]
   have h2 : ((fmPl (3 - f)).map List.length).getD i 0 = ((fmPl (3 - f)).getD i []).length := by simp [List.getD, show i < (fmPl (3 - f)).length by omega]
   have h3 : (X.getD i []).length = ((fmPl (3 - f)).getD i []).length := by rw [← h1, hlens, h2]
   refine ⟨h3, ?_⟩
   rw [← h1]
   have h4 := (shape_lens X).1 (by rw [hf]; omega)
   have h5 : n = (X.map List.length).length := by simp [hn]
   rcases h4 with e | e | e <;> rw [e] at h5 ⊢ <;> simp at h5
   · obtain rfl | rfl | rfl : i = 0 ∨ i = 1 ∨ i = 2 := by omega
     all_goals decide
   · obtain rfl | rfl : i = 0 ∨ i = 1 := by omega
     all_goals decide
   · obtain rfl | rfl : i = 0 ∨ i = 1 := by omega
     all_goals decide
  obtain ⟨O, hO⟩ : ∃ O, widS X (fmPl (3 - f)) = O := ⟨_, rfl⟩
  have hOl : O.length = n := by rw [← hO, widS_len, hn]
  have hOg : ∀ i, i < n → O.getD i [] = widL (X.getD i []) ((fmPl (3 - f)).getD i []) := fun i hi => by rw [← hO, widS_get _ _ (by rw [hn]; exact hi)]
  have HFT : Hid (∀ i, i < n → ∀ k, k < (X.getD i []).length → ∃ kd, kd ≤ 2 ∧ (∀ w, Calls Tryz.prog 43 #[.int .i64 (f : Int), .int .i64 (i : Int), .int .i64 (k : Int)] w fun e w' => e = .returned (.int .i64 ((kd : Nat) : Int)) ∧ w = w') ∧ sortU (rFit ((X.getD i []).getD k 0).toNat kd) = (O.getD i []).getD k []) := Lib.hid (fun i hi k hk2 => by
   refine ⟨kindF f i k, kindF_le _ _ _, fun w => r_kind f i k hf1 (by omega) (by rw [← (hrow i hi).1]; exact hk2) w, ?_⟩
   rw [ref_fit (kindF_le _ _ _) (UInt8.toNat_lt _), hOg i hi, widL_get _ _ hk2, pl_kind hf1 (by omega) (by rw [← (hrow i hi).1]; exact hk2)])
  have HOL : Hid (∀ i, i < n → (O.getD i []).length = (X.getD i []).length ∧ (X.getD i []).length ≤ 44) := Lib.hid (fun i hi => ⟨by rw [hOg i hi, widL_len], (hrow i hi).2⟩)
  have HX := Lib.hid (show _ ∧ _ from ⟨hn, hOl⟩)
  have HY : Hid ((∀ i, i < n → validL (X.getD i []) = true) → widE X = 0 ∧ widO X = O) := Lib.hid (fun h => by
   have hb : (X.any fun x => !validL x) = false := by
    rw [List.any_eq_false]
    intro x hx
    obtain ⟨i, hi, rfl⟩ := List.getElem_of_mem hx
    have := h i (by omega)
    rw [List.getD_eq_getElem?_getD, List.getElem?_eq_getElem hi, Option.getD_some] at this
    rw [this]; decide
   have he : widE X = 0 := by unfold widE; rw [if_neg (by rw [hf]; omega), hb]; rfl
   exact ⟨he, by unfold widO; rw [he, if_pos rfl, hk, hO]⟩)
  have HN : Hid (∀ i, i < n → validL (X.getD i []) = false → widE X = 12 ∧ widO X = []) := Lib.hid (fun i hi h => by
   have hb : (X.any fun x => !validL x) = true := by
    rw [List.any_eq_true]
    refine ⟨X.getD i [], ?_, by rw [h]; rfl⟩
    rw [List.getD_eq_getElem?_getD, List.getElem?_eq_getElem (by omega)]
    exact List.getElem_mem _
   have he : widE X = 12 := by unfold widE; rw [if_neg (by rw [hf]; omega), hb]; rfl
   exact ⟨he, by unfold widO; rw [he, if_neg (by decide)]⟩)
  obtain ⟨ab, ao, rfl, hab, hxc⟩ := hs.cell (by omega)
  have hfi : ((f : Int) = 0) = False := by simp; omega
  have hfb : ((f : Int) == 0) = false := by simpa using hf0
  clear hf hf3 hf0 hs hG hn hf1 hk hlens hn3 hrow hO hOl hOg hab hxc
  go_enter Tryz.func14, Tryz.ntmps14
  go_wp2_with (go_at_call 40; ((with_reducible refine (HSH.out _ HS.out).mono ?_); rintro e w1 ⟨rfl, hb⟩); have HB := Lib.hid hb; clear hb)
  go_loopw [5] (fun i wr => ∃ (j : Nat), j ≤ n ∧ i = .int .i64 (j : Int) ∧ Hid (w1 = wr ∧ ∀ i, i < j → validL (X.getD i []) = true)) (fun i _ => n - (intOf i).toNat)
  case atStart => exact ⟨0, by omega, rfl, Lib.hid ⟨rfl, fun i hi => by omega⟩⟩
  case round =>
   obtain ⟨j, hj, rfl, HR⟩ := hrel
   obtain rfl := HR.out.1
   by_cases hlt : j < n
   ·
    have hj0 : (j : Int) < (n : Int) := by omega
    obtain ⟨x, hx⟩ : ∃ x, X.getD j [] = x := ⟨_, rfl⟩
    obtain ⟨b, hb⟩ : ∃ b, validL x = b := ⟨_, rfl⟩
    have hxc := (HS.out.on HB.out).cell2 (i := j) (by rw [HX.out.1]; exact hlt)
    have hxl := (HOL.out j hlt).2
    rw [hx] at hxc hxl
    have hv := fun w => r_validB x b hb w (by rw [S_size]; omega)
    obtain ⟨sx, hsx⟩ : ∃ sx, S x = sx := ⟨_, rfl⟩
    rw [hsx] at hxc hv
    have HXC := Lib.hid hxc
    have HV := Lib.hid hv
    have HXX := Lib.hid (show _ ∧ _ from ⟨hx, hb⟩)
    clear hx hb hxc hv hsx hxl
    rcases b with _ | _
    · go_wp2_with (first
       | ((with_reducible refine at_load_ (d := 26) ?_); refine wpList_load_c rfl _ _ rfl ab (ao + j) rfl _ HXC.out (fun w => by kernel_rfl) ?_)
       | (go_at_call 41; ((with_reducible refine (HV.out _).mono ?_); rintro e w2 ⟨rfl, rfl⟩)))
      go_ret2
      obtain ⟨h1, h2⟩ := HN.out j hlt (by rw [HXX.out.1]; exact HXX.out.2)
      rw [h1, h2]
      exact ⟨none, 0, rfl, ⟨[], .inl rfl, rfl, fun i r h => by simp at h⟩, HB.out⟩
    · go_wp2_with (first
       | ((with_reducible refine at_load_ (d := 26) ?_); refine wpList_load_c rfl _ _ rfl ab (ao + j) rfl _ HXC.out (fun w => by kernel_rfl) ?_)
       | (go_at_call 41; ((with_reducible refine (HV.out _).mono ?_); rintro e w2 ⟨rfl, rfl⟩))
       | ((with_reducible refine at_any_ (d := 22) ?_); refine wpList_add1 rfl _ _ _ rfl j rfl rfl (by omega) ?_))
      go_roundw
      case rel => exact ⟨j + 1, by omega, by first | rfl | go_num, Lib.hid ⟨by first | rfl | trivial, fun i hi => by
       by_cases e : i = j
       · rw [e, HXX.out.1]; exact HXX.out.2
       · exact HR.out.2 i (by omega)⟩⟩
      case measure => simp [intOf]; omega
   ·
    obtain rfl : j = n := by omega
    have HYY := Lib.hid (HY.out HR.out.2)
    have HG1 := Lib.hid (HG.out.on HB.out)
    have HS1 := Lib.hid (HS.out.on HB.out)
    clear HR HY HN
    go_wp2
    go_loopw [7, 6] (fun i v wr => ∃ (l : Nat) (A1 : Option Addr) (c1 : Nat), l ≤ j ∧ i = .int .i64 (l : Int) ∧ v = .slice A1 l c1 ∧ Hid (∃ vs, OW w1 A1 c1 l vs (O.take l) wr)) (fun i _ _ => j - (intOf i).toNat)
    case atStart => exact ⟨0, none, 0, by omega, rfl, rfl, Lib.hid ⟨[], OW.start _⟩⟩
    case round =>
     obtain ⟨l, A1, c1, hl, rfl, rfl, HH⟩ := hrel
     obtain ⟨vs, how⟩ := HH.out
     by_cases hlt : l < j
     ·
      skip
      have hl0 : (l : Int) < (j : Int) := by omega
      obtain ⟨x, hx⟩ : ∃ x, X.getD l [] = x := ⟨_, rfl⟩
      obtain ⟨o, ho⟩ : ∃ o, O.getD l [] = o := ⟨_, rfl⟩
      obtain ⟨ln, hln⟩ : ∃ ln, x.length = ln := ⟨_, rfl⟩
      have hol := HOL.out l hlt
      have hft := HFT.out l hlt
      have hsn := take_snocO (O := O) (j := l) (by rw [HX.out.2]; exact hlt)
      have hxc0 := fun cur (hb : Below w1.heap.size w1 cur) => (HS1.out.on hb).cell2 (i := l) (by rw [HX.out.1]; exact hlt)
      rw [hx, hln] at hol hft
      rw [ho] at hol hft hsn
      rw [hx] at hxc0
      have hln44 := hol.2
      obtain ⟨sx, hsx⟩ : ∃ sx, S x = sx := ⟨_, rfl⟩
      have hsz : (sx.size : Int) = (ln : Int) := by rw [← hsx, S_size, hln]
      have hsz2 : sx.size = ln := by omega
      have HIX : Hid (∀ k, k < ln → ∀ w, (Instr.index 9 (.string sx) (.int .i64 (k : Int))).run Tryz.prog w = .ok (.int .u8 ((x.getD k 0).toNat : Int)) w) := Lib.hid (by rw [← hsx, ← hln]; exact fun k hk w => str_byte x k hk w)
      rw [hsx] at hxc0
      have hxc := Lib.hid hxc0
      have HFT2 := Lib.hid hft
      have HO := Lib.hid (show _ ∧ _ from ⟨hsn, hol.1⟩)
      obtain ⟨B, hB⟩ : ∃ B, wr.heap.size = B := ⟨_, rfl⟩
      have HK0 := how.open_
      rw [hB] at HK0
      have HK1 := Lib.hid HK0
      clear HH how HK0 hB hx ho hln hol hft hsn hxc0 hsx
      go_wp2
      go_loopw [9, 8] (fun i u wq => ∃ (k : Nat) (A2 : Option Addr) (c2 : Nat), k ≤ ln ∧ i = .int .i64 (k : Int) ∧ u = .slice A2 k c2 ∧ Hid (RW w1 B A2 c2 k (strV (o.take k)) A1 c1 l vs (O.take l) wq)) (fun i _ _ => ln - (intOf i).toNat)
      case atStart => exact ⟨0, none, 0, by omega, rfl, rfl, HK1⟩
      case round =>
       clear HK1
       obtain ⟨k, A2, c2, hk, rfl, rfl, HK⟩ := hrel
       by_cases hlk : k < ln
       ·
        skip
        have hix := HIX.out k hlk
        obtain ⟨kd, hkd, hkc, hst⟩ := HFT2.out k hlk
        obtain ⟨cc, hcc⟩ : ∃ cc, (x.getD k 0).toNat = cc := ⟨_, rfl⟩
        have hc2 : cc < 256 := by rw [← hcc]; exact UInt8.toNat_lt _
        rw [hcc] at hst hix
        have hsim := fun w hG => r_sim cc hc2 w hG
        obtain ⟨sm, hsm⟩ : ∃ sm, simL cc = sm := ⟨_, rfl⟩
        rw [hsm] at hsim
        obtain ⟨sn, hsn⟩ : ∃ sn, sm.length = sn := ⟨_, rfl⟩
        have hs4 : sn ≤ 4 := by rw [← hsn, ← hsm]; exact (fit_sorted (k := 0) hc2).2.2
        obtain ⟨pf, hpf⟩ : ∃ pf : UInt8 → Bool, (fun b => mayK b.toNat kd) = pf := ⟨_, rfl⟩
        have HSIM := Lib.hid hsim
        have HSM := Lib.hid hsn
        have HKC := Lib.hid hkc
        have HPF := Lib.hid (show ∀ b, mayK b.toNat kd = pf b from fun b => by rw [← hpf])
        clear hkc hcc hsim hsn
        by_cases hF : sm.filter pf = []
        ·
         skip
         have HSO := Lib.hid (fun w => r_sorted [UInt8.ofNat cc] (by simp) w)
         have HOK : Hid (S (sortU [UInt8.ofNat cc]) = S (o.getD k [])) := Lib.hid (by rw [← hst, rFit, if_pos (show rF cc kd = [] from by unfold rF; rw [hsm, hpf]; exact hF)])
         have HF0 := Lib.hid hF
         clear hF hst hsm hpf
         go_wp2_with (first
          | ((with_reducible refine at_load_ (d := 39) ?_); refine wpList_load_c rfl _ _ rfl ab (ao + l) rfl _ (hxc.out _ HK.out.ow.bl) (fun w => by kernel_rfl) ?_)
          | ((with_reducible refine at_load_ (d := 47) ?_); refine wpList_load_c rfl _ _ rfl ab (ao + l) rfl _ (hxc.out _ HK.out.ow.bl) (fun w => by kernel_rfl) ?_)
          | ((with_reducible refine at_any_ (d := 49) ?_); refine wpList_ix rfl _ _ _ rfl rfl rfl (hix _) ?_)
          | (go_at_call 12; ((with_reducible refine (HSIM.out _ (HG1.out.on HK.out.ow.bl)).mono ?_); rintro e w5 ⟨rfl, hb⟩; replace HK := Lib.hid (HK.out.on hb); clear hb)))
         go_loopw [12, 11] (fun r v wq => ∃ (m : Nat), m ≤ sn ∧ r = .string (S (sm.drop m)) ∧ v = .string (S ((sm.take m).filter pf)) ∧ Hid (Below w5.heap.size w5 wq)) (fun r _ _ => strSz r)
         case atStart => exact ⟨0, by omega, rfl, rfl, Lib.hid (Below.refl _ _)⟩
         case round =>
          obtain ⟨m, hm, rfl, rfl, HQ⟩ := hrel
          by_cases hlm : m < sn
          ·
           have hb2 := head_s sm m (by rw [HSM.out]; exact hlm)
           have htl := tail_s sm m (by rw [HSM.out]; exact hlm)
           have hix2 := ix_drop sm m (by rw [HSM.out]; exact hlm)
           obtain ⟨mb, hmb⟩ : ∃ mb, mayK (sm.getD m 0).toNat kd = mb := ⟨_, rfl⟩
           have hmy := fun w => r_may (sm.getD m 0).toNat kd hkd mb hmb w
           have HMB := Lib.hid (show pf (sm.getD m 0) = mb from by rw [← HPF.out]; exact hmb)
           obtain ⟨bb, hbb⟩ : ∃ bb, (sm.getD m 0).toNat = bb := ⟨_, rfl⟩
           rw [hbb] at hmy hix2
           have HMY := Lib.hid hmy
           have HHD := Lib.hid hb2
           have HTL := Lib.hid htl
           clear hmy hb2 htl hbb hmb
           go_wp2_with (first
            | ((with_reducible refine at_any_ (d := 53) ?_); go_must (refine wpList_bin rfl .neq _ _ _ _ rfl rfl rfl (neq_e (sm.drop m) true (drop_ne (by rw [HSM.out]; exact hlm)) _ _ _) ?_)))
           have q1 := quiet_still (w := wr) HKC.out
           have q2 := quiet_still (w := wr) HMY.out
           refine wp_region_quiet_below (by kernel_rfl) (by kernel_rfl) ?_
           repeat (quiet_step (first | with_reducible exact q1 _ _ | with_reducible exact q2 _ _))
           refine wpQuiet_nil ?_
           intro w9 hw9
           replace HQ := Lib.hid (below_on HQ.out (below_of_regrown hw9))
           clear hw9 q1 q2 hix2
           rcases mb with _ | _
           · go_wp2_with (first
              | ((with_reducible refine at_slice_ (d := 55) ?_); go_must (refine wpList_sl rfl _ _ _ _ _ rfl rfl rfl rfl rfl (HTL.out _) ?_)))
             go_roundw
             case rel => exact ⟨m + 1, by omega, rfl, by rw [filt_snoc pf (by rw [HSM.out]; exact hlm), if_neg (by rw [HMB.out]; decide), List.append_nil], HQ⟩
             case measure => simp [strSz, S_size]; rw [HSM.out]; omega
           · go_wp2_with (first
              | ((with_reducible refine at_slice_ (d := 65) ?_); go_must (refine wpList_sl rfl _ _ _ _ _ rfl rfl rfl rfl rfl (HHD.out _) ?_))
              | ((with_reducible refine at_any_ (d := 66) ?_); go_must (refine wpList_bin rfl .add _ _ _ _ rfl rfl rfl (add_s ((sm.take m).filter pf) [sm.getD m 0] (flt_le pf sm m (by omega)) _ _ _) ?_))
              | ((with_reducible refine at_slice_ (d := 55) ?_); go_must (refine wpList_sl rfl _ _ _ _ _ rfl rfl rfl rfl rfl (HTL.out _) ?_)))
             go_roundw
             case rel => exact ⟨m + 1, by omega, rfl, by rw [filt_snoc pf (by rw [HSM.out]; exact hlm), if_pos HMB.out]; rfl, HQ⟩
             case measure => simp [strSz, S_size]; rw [HSM.out]; omega
          ·
           obtain rfl : m = sn := by omega
           have HQ2 := Lib.hid (((HK.out.on HQ.out).on ((Below.refl _ _).alloc (Nat.le_refl _) (.cells #[.int .u8 (cc : Int)] 5))))
           have hcv := run_conv (wr.alloc (.cells #[.int .u8 (cc : Int)] 5)) (wr.heap.size + 1) (some ⟨wr.heap.size, 0, none⟩) [UInt8.ofNat cc] (.inr ⟨wr.heap.size, 0, rfl, by omega, fun k hk => by
            have hk0 : k = 0 := by simp [Us] at hk; omega
            subst hk0
            rw [Nat.zero_add, cell_alloc1]
            simp [Us, U]; omega⟩) 1 1 rfl
           have hu8 : IntKind.u8.wrap (cc : Int) = (cc : Int) := by rw [IntKind.wrap_u8]; omega
           go_wp2_with (first
            | ((with_reducible refine at_any_ (d := 53) ?_); refine wpList_bin rfl .neq _ _ _ _ rfl rfl rfl (neq_e (sm.drop m) false (by rw [List.drop_of_length_le (by rw [HSM.out]; exact Nat.le_refl _)]; rfl) _ _ _) ?_)
            | ((with_reducible refine at_any_ (d := 68) ?_); refine wpList_bin rfl .eql _ _ _ _ rfl rfl rfl (eql_e ((sm.take m).filter pf) true (by rw [List.take_of_length_le (by rw [HSM.out]; exact Nat.le_refl _), HF0.out]; rfl) _ _ _) ?_)
            | (go_at_call 44; ((with_reducible refine (HSO.out _).mono ?_); rintro e w6 ⟨rfl, rfl⟩))
            | ((with_reducible refine at_any_ (d := 43) ?_); refine wpList_add1 rfl _ _ _ rfl k rfl rfl (by omega) ?_)
            | ((with_reducible refine at_call_ (d := 76) ?_); go_must (refine wpList_append_own _ rfl (.tmp 72) (.tmp 75) 25 rfl B 9 i0 (.string ⟨#[]⟩) 1 16 Tryz.underlying25 hi hz0 hz1 hz2 rfl (by decide) (.slice A2 k c2) k _ rfl (HQ2.out.row.alloc _) ⟨_, 0, none⟩ 1 1 [_] rfl rfl (news_one2 (wr.alloc (.cells #[.int .u8 (cc : Int)] 5)) _ _ (by simp)) (one_str _) (by unfold maxLen; omega) (by omega) (Nat.le_trans HQ2.out.le ((Below.refl _ _).alloc (Nat.le_refl _) _).size) ?_; intro v3 w3 ho3 hg3 _; obtain ⟨A3, c3, rfl⟩ := own_len ho3; have HR := Lib.hid (show _ ∧ _ from ⟨ho3, hg3⟩); clear ho3 hg3)))
           go_roundw
           case rel =>
            refine ⟨k + 1, A3, c3, by omega, by first | rfl | go_num, rfl, Lib.hid ?_⟩
            rw [strV_snoc (by rw [HO.out.2]; exact hlk), ← HOK.out]
            exact HQ2.out.pushA HR.out.1 HR.out.2
           case measure => simp [intOf]; omega
        ·
         skip
         have htk : sm.take sn = sm := List.take_of_length_le (by rw [HSM.out]; exact Nat.le_refl _)
         have HSO := Lib.hid (fun w => r_sorted ((sm.take sn).filter pf) (by rw [htk]; exact Nat.le_trans (List.length_filter_le _ _) (by rw [HSM.out]; omega)) w)
         have HOK : Hid (S (sortU ((sm.take sn).filter pf)) = S (o.getD k [])) := Lib.hid (by rw [htk, ← hst, rFit, if_neg (show ¬ rF cc kd = [] from by unfold rF; rw [hsm, hpf]; exact hF), rF, hsm, hpf])
         clear htk
         have HF0 := Lib.hid hF
         clear hF hst hsm hpf
         go_wp2_with (first
          | ((with_reducible refine at_load_ (d := 39) ?_); refine wpList_load_c rfl _ _ rfl ab (ao + l) rfl _ (hxc.out _ HK.out.ow.bl) (fun w => by kernel_rfl) ?_)
          | ((with_reducible refine at_load_ (d := 47) ?_); refine wpList_load_c rfl _ _ rfl ab (ao + l) rfl _ (hxc.out _ HK.out.ow.bl) (fun w => by kernel_rfl) ?_)
          | ((with_reducible refine at_any_ (d := 49) ?_); refine wpList_ix rfl _ _ _ rfl rfl rfl (hix _) ?_)
          | (go_at_call 12; ((with_reducible refine (HSIM.out _ (HG1.out.on HK.out.ow.bl)).mono ?_); rintro e w5 ⟨rfl, hb⟩; replace HK := Lib.hid (HK.out.on hb); clear hb)))
         go_loopw [12, 11] (fun r v wq => ∃ (m : Nat), m ≤ sn ∧ r = .string (S (sm.drop m)) ∧ v = .string (S ((sm.take m).filter pf)) ∧ Hid (Below w5.heap.size w5 wq)) (fun r _ _ => strSz r)
         case atStart => exact ⟨0, by omega, rfl, rfl, Lib.hid (Below.refl _ _)⟩
         case round =>
          obtain ⟨m, hm, rfl, rfl, HQ⟩ := hrel
          by_cases hlm : m < sn
          ·
           have hb2 := head_s sm m (by rw [HSM.out]; exact hlm)
           have htl := tail_s sm m (by rw [HSM.out]; exact hlm)
           have hix2 := ix_drop sm m (by rw [HSM.out]; exact hlm)
           obtain ⟨mb, hmb⟩ : ∃ mb, mayK (sm.getD m 0).toNat kd = mb := ⟨_, rfl⟩
           have hmy := fun w => r_may (sm.getD m 0).toNat kd hkd mb hmb w
           have HMB := Lib.hid (show pf (sm.getD m 0) = mb from by rw [← HPF.out]; exact hmb)
           obtain ⟨bb, hbb⟩ : ∃ bb, (sm.getD m 0).toNat = bb := ⟨_, rfl⟩
           rw [hbb] at hmy hix2
           have HMY := Lib.hid hmy
           have HHD := Lib.hid hb2
           have HTL := Lib.hid htl
           clear hmy hb2 htl hbb hmb
           go_wp2_with (first
            | ((with_reducible refine at_any_ (d := 53) ?_); go_must (refine wpList_bin rfl .neq _ _ _ _ rfl rfl rfl (neq_e (sm.drop m) true (drop_ne (by rw [HSM.out]; exact hlm)) _ _ _) ?_)))
           have q1 := quiet_still (w := wr) HKC.out
           have q2 := quiet_still (w := wr) HMY.out
           refine wp_region_quiet_below (by kernel_rfl) (by kernel_rfl) ?_
           repeat (quiet_step (first | with_reducible exact q1 _ _ | with_reducible exact q2 _ _))
           refine wpQuiet_nil ?_
           intro w9 hw9
           replace HQ := Lib.hid (below_on HQ.out (below_of_regrown hw9))
           clear hw9 q1 q2 hix2
           rcases mb with _ | _
           · go_wp2_with (first
              | ((with_reducible refine at_slice_ (d := 55) ?_); go_must (refine wpList_sl rfl _ _ _ _ _ rfl rfl rfl rfl rfl (HTL.out _) ?_)))
             go_roundw
             case rel => exact ⟨m + 1, by omega, rfl, by rw [filt_snoc pf (by rw [HSM.out]; exact hlm), if_neg (by rw [HMB.out]; decide), List.append_nil], HQ⟩
             case measure => simp [strSz, S_size]; rw [HSM.out]; omega
           · go_wp2_with (first
              | ((with_reducible refine at_slice_ (d := 65) ?_); go_must (refine wpList_sl rfl _ _ _ _ _ rfl rfl rfl rfl rfl (HHD.out _) ?_))
              | ((with_reducible refine at_any_ (d := 66) ?_); go_must (refine wpList_bin rfl .add _ _ _ _ rfl rfl rfl (add_s ((sm.take m).filter pf) [sm.getD m 0] (flt_le pf sm m (by omega)) _ _ _) ?_))
              | ((with_reducible refine at_slice_ (d := 55) ?_); go_must (refine wpList_sl rfl _ _ _ _ _ rfl rfl rfl rfl rfl (HTL.out _) ?_)))
             go_roundw
             case rel => exact ⟨m + 1, by omega, rfl, by rw [filt_snoc pf (by rw [HSM.out]; exact hlm), if_pos HMB.out]; rfl, HQ⟩
             case measure => simp [strSz, S_size]; rw [HSM.out]; omega
          ·
           obtain rfl : m = sn := by omega
           have HQ2 := Lib.hid ((HK.out.on HQ.out))
           go_wp2_with (first
            | ((with_reducible refine at_any_ (d := 53) ?_); refine wpList_bin rfl .neq _ _ _ _ rfl rfl rfl (neq_e (sm.drop m) false (by rw [List.drop_of_length_le (by rw [HSM.out]; exact Nat.le_refl _)]; rfl) _ _ _) ?_)
            | ((with_reducible refine at_any_ (d := 68) ?_); refine wpList_bin rfl .eql _ _ _ _ rfl rfl rfl (eql_e ((sm.take m).filter pf) false (by rw [List.take_of_length_le (by rw [HSM.out]; exact Nat.le_refl _)]; simpa using HF0.out) _ _ _) ?_)
            | (go_at_call 44; ((with_reducible refine (HSO.out _).mono ?_); rintro e w6 ⟨rfl, rfl⟩))
            | ((with_reducible refine at_any_ (d := 43) ?_); refine wpList_add1 rfl _ _ _ rfl k rfl rfl (by omega) ?_)
            | ((with_reducible refine at_call_ (d := 76) ?_); go_must (refine wpList_append_own _ rfl (.tmp 72) (.tmp 75) 25 rfl B 9 i0 (.string ⟨#[]⟩) 1 16 Tryz.underlying25 hi hz0 hz1 hz2 rfl (by decide) (.slice A2 k c2) k _ rfl (HQ2.out.row.alloc _) ⟨_, 0, none⟩ 1 1 [_] rfl rfl (news_of_one _ _ _) (one_str _) (by unfold maxLen; omega) (by omega) (Nat.le_trans HQ2.out.le ((Below.refl _ _).alloc (Nat.le_refl _) _).size) ?_; intro v3 w3 ho3 hg3 _; obtain ⟨A3, c3, rfl⟩ := own_len ho3; have HR := Lib.hid (show _ ∧ _ from ⟨ho3, hg3⟩); clear ho3 hg3)))
           go_roundw
           case rel =>
            refine ⟨k + 1, A3, c3, by omega, by first | rfl | go_num, rfl, Lib.hid ?_⟩
            rw [strV_snoc (by rw [HO.out.2]; exact hlk), ← HOK.out]
            exact HQ2.out.pushA HR.out.1 HR.out.2
           case measure => simp [intOf]; omega
       · obtain rfl : k = ln := by omega
         go_wp2_with (first
          | ((with_reducible refine at_load_ (d := 39) ?_); refine wpList_load_c rfl _ _ rfl ab (ao + l) rfl _ (hxc.out _ HK.out.ow.bl) (fun w => by kernel_rfl) ?_)
          | ((with_reducible refine at_any_ (d := 34) ?_); refine wpList_add1 rfl _ _ _ rfl l rfl rfl (by omega) ?_)
          | ((with_reducible refine at_call_ (d := 80) ?_); (refine wpList_append_own _ rfl (.tmp 77) (.tmp 79) 27 rfl w1.heap.size 25 i1 nilS 1 24 Tryz.underlying27 hj1 hj2 hj3 hj4 rfl (by decide) (.slice A1 l c1) l _ rfl (HK.out.ow.own.alloc _) ⟨_, 0, none⟩ 1 1 [_] rfl rfl (news_of_one _ _ _) (one_sl _ _ _) (by unfold maxLen; omega) (by omega) (by have := HK.out.ow.bl.size; simp; omega) ?_; intro v3 w3 ho3 hg3 _; obtain ⟨A3, c3, rfl⟩ := own_len ho3; have HR := Lib.hid (show _ ∧ _ from ⟨ho3, hg3⟩); clear ho3 hg3)))
         go_roundw
         case rel =>
          refine ⟨l + 1, A3, c3, by omega, by first | rfl | go_num, rfl, Lib.hid ⟨vs ++ [Value.slice A2 k c2], ?_⟩⟩
          rw [HO.out.1]
          exact HK.out.closeA (by rw [List.take_of_length_le (by rw [HO.out.2]; exact Nat.le_refl _)]) HO.out.2 HR.out.1 HR.out.2
         case measure => simp [intOf]; omega
     · obtain rfl : l = j := by omega
       go_wp2
       go_ret2
       rw [List.take_of_length_le (by rw [HX.out.2]; exact Nat.le_refl _)] at how
       rw [HYY.out.1, HYY.out.2, HX.out.2]
       exact ⟨_, _, rfl, how.rdg, below_on HB.out how.bl⟩
theorem sees_ups {w w' : World} {A : Option Addr} {cs : List Value} (h : SeesP w (· < w.heap.size) A cs) (hb : Below w.heap.size w w') : SeesP w' (· < w'.heap.size) A cs := SeesP.iff_sees.2 ((SeesP.iff_sees.1 h).on hb)
theorem wide_zero {X : List (List UInt8)} (h : shapeL X ≠ 0) (hv : allV X = true) : widE X = 0 := by
 have hb : (X.any fun x => !validL x) = false := by
  rw [List.any_eq_false]
  intro x hx
  unfold allV at hv
  rw [List.all_eq_true] at hv
  rw [hv x hx]; decide
 unfold widE
 rw [if_neg h, hb]; rfl
theorem wid_small (X : List (List UInt8)) : (widO X).length ≤ 1000000 ∧ ∀ x ∈ widO X, x.length ≤ 1000000 := by
 unfold widO
 split
 ·
  rename_i h
  have hs : shapeL X ≠ 0 := by
   intro e
   unfold widE at h
   rw [if_pos e] at h
   cases h
  have hl := shape_len hs
  refine ⟨by rw [widS_len]; omega, fun x hx => ?_⟩
  obtain ⟨i, hi, rfl⟩ := List.getElem_of_mem hx
  rw [widS_len] at hi
  have e := widS_get X (fmPl (fmt3 (X.map List.length))) hi
  rw [List.getD_eq_getElem?_getD, List.getElem?_eq_getElem (by rw [widS_len]; exact hi), Option.getD_some] at e
  rw [e, widL_len]
  have h1 : (X.map List.length).getD i 0 = (X.getD i []).length := by simp [List.getD, hi]
  rw [← h1]
  rcases (shape_lens X).1 hs with e | e | e <;> rw [e]
  · have : i < 3 := by omega
    obtain rfl | rfl | rfl : i = 0 ∨ i = 1 ∨ i = 2 := by omega
    all_goals decide
  · have h2 : X.length = 2 := by have := congrArg List.length e; simpa using this
    obtain rfl | rfl : i = 0 ∨ i = 1 := by omega
    all_goals decide
  · have h2 : X.length = 2 := by have := congrArg List.length e; simpa using this
    obtain rfl | rfl : i = 0 ∨ i = 1 := by omega
    all_goals decide
 · exact ⟨by decide, fun x hx => by simp at hx⟩
def Lines3Is (w : World) (D : Nat) (e : Ending) (w' : World) : Prop := ∃ (ls : List (List UInt8)) (n : Nat) (A : Option Addr), shapeL ls ≠ 0 ∧ widE ls = 0 ∧ ls.length = n ∧ e = .returned (.slice A n n) ∧ Strs w' A ls ∧ w.grownBy w' (some D)
set_option maxHeartbeats 1600000 in
set_option maxRecDepth 20000 in
theorem dice_lines3 (D : Nat) (w : World) (h : DiceOk w D) : Calls Tryz.prog 17 #[.pointer (some ⟨D, 0, none⟩)] w (Lines3Is w D) := by
 have HD := Lib.hid h
 clear h
 go_enter Tryz.func17, Tryz.ntmps17
 go_wp2_with fail
 refine (dice_zone D w HD.out).mono ?_
 rintro e w1 ⟨z, rfl, hz, hb, hg, hd⟩
 obtain ⟨us, hus⟩ : ∃ us, zV z = us := ⟨_, rfl⟩
 rw [hus]
 obtain ⟨n, hn⟩ : ∃ n, (buildL z).length = n := ⟨_, rfl⟩
 have e : buildL z = buildT z := by unfold buildL; rw [if_pos hz]
 have hsh : shapeL (buildL z) ≠ 0 := by
  rw [e, bk_shape hz]
  have := (vE_ok hz).1
  omega
 have hwe : widE (buildL z) = 0 := wide_zero hsh (by rw [e]; exact bk_valid hz)
 have HBD : Hid (∀ w, Calls Tryz.prog 45 #[.agg us.toArray] w fun e w' => ∃ A, e = .returned (.tuple #[.slice A n n, .int .i64 0]) ∧ StrsM w w' A (buildL z) ∧ Below w.heap.size w w') := Lib.hid (fun w => by
  have := r_build_okM z us hb hus hz w
  rw [hn, hz] at this
  exact this)
 have HZ := Lib.hid (show _ ∧ _ ∧ _ ∧ _ from ⟨hsh, hwe, hg, hn⟩)
 clear hz hb hg hd hus hn HD hsh hwe e
 go_wp2_with (go_at_call 45; ((with_reducible refine (HBD.out _).mono ?_); rintro e w2 ⟨A, rfl, hs, hb⟩); have HS := Lib.hid (And.intro hs hb); clear hs hb)
 go_ret
 exact ⟨buildL z, n, A, HZ.out.1, HZ.out.2.1, HZ.out.2.2.2, rfl, HS.out.1.1, grown_row (row := none) HZ.out.2.2.1 (grown_below HS.out.2) (fun g e => by cases e)⟩
set_option maxHeartbeats 6400000 in
set_option maxRecDepth 40000 in
theorem p_lwidens (A0 : Option Addr) (c0 : Nat) (X : List (List UInt8)) (A : Option Addr) (c : Nat) (x : List Int) (w : World) (hM : Mm w) (hG : TabG 0 w) (hG2 : TabG 1 w) (hX : Strs w A0 X) (hXl : X.length ≤ 10000000000000) (see : SeesP w (· < w.heap.size) A (x.map (Value.int .i64))) (m : x.length ≤ 140737488351232) (rng : ∀ y ∈ x, -9223372036854775808 ≤ y ∧ y ≤ 9223372036854775807) :
 Calls Tryz.prog 4 #[.slice A0 X.length c0, .slice A x.length c] w fun e w' => e = .returned (.bool true) ∧ Below w.heap.size w w' := by
 have HM := Lib.hid (show _ ∧ _ ∧ _ from ⟨hM, hG, hG2⟩)
 obtain ⟨n, hn⟩ : ∃ n, X.length = n := ⟨_, rfl⟩
 obtain ⟨Y, hY⟩ : ∃ Y, widO X = Y := ⟨_, rfl⟩
 obtain ⟨yl, hyl⟩ : ∃ yl, Y.length = yl := ⟨_, rfl⟩
 obtain ⟨ev, hev⟩ : ∃ ev, widE X = ev := ⟨_, rfl⟩
 obtain ⟨xl, hxl⟩ : ∃ xl, x.length = xl := ⟨_, rfl⟩
 have hsm := wid_small X
 rw [hn] at hXl
 have HPW := Lib.hid (fun w hG hs => p_widen X A0 n c0 hn hXl w hG hs)
 have HRW := Lib.hid (fun w hG hs => r_widen X A0 n c0 hn w hG hs)
 rw [hY, hyl, hev] at HPW HRW
 rw [hY, hyl] at hsm
 have HSA := Lib.hid (fun A B c d w ha hb => r_same2 Y A B yl c d hyl hsm.1 hsm.2 w ha hb)
 have HS := Lib.hid hX
 have HB := Lib.hid (Below.refl w.heap.size w)
 have HL := Lib.hid (fun w => made_light A xl c w (by omega))
 have HSE := Lib.hid see
 have HR := Lib.hid (fun w see => made_roll A c x w m rng see)
 rw [hxl] at HR
 rw [hn, hxl]
 clear hM hG hG2 hX hn hY hyl hev hsm see m rng hxl
 by_cases hx : ¬ xl ≤ 400
 · have d : decide (xl ≤ 400) = false := decide_eq_false hx
   rw [d] at HL
   clear hx d
   go_enter Tryz.func4, Tryz.ntmps4
   go_wp2_with (first
    | (go_at_call 16; refine (HL.out _).mono ?_; rintro e w' ⟨rfl, hw⟩; rw [hw]; clear hw)
    | (go_at_call 13; go_must ((with_reducible refine (HPW.out _ (HM.out.2.1.on HB.out) HS.out).mono ?_); rintro e w1a ⟨A4, c4, rfl, hx, hb⟩; have HX := Lib.hid hx; replace HS := Lib.hid (Strs.on HS.out hb); replace HB := Lib.hid (below_on HB.out hb); clear hb hx))
    | (go_at_call 14; go_must ((with_reducible refine (HRW.out _ (HM.out.2.2.on HB.out) HS.out).mono ?_); rintro e w1b ⟨A5, c5, rfl, hx, hb⟩; have HY := Lib.hid hx; replace HX := Lib.hid (HX.out.on hb); replace HB := Lib.hid (below_on HB.out hb); clear hb hx))
    | (go_at_call 11; go_must ((with_reducible refine (p_awake _ (HM.out.1.on HB.out) (HM.out.2.1.on HB.out)).mono ?_); rintro e w1c ⟨rfl, hb⟩; replace HX := Lib.hid (HX.out.on hb); replace HY := Lib.hid (HY.out.on hb); replace HB := Lib.hid (below_on HB.out hb); clear hb))
    | (go_at_call 15; go_must ((with_reducible refine (HSA.out _ _ _ _ _ HX.out HY.out).mono ?_); rintro e w1d ⟨rfl, hb⟩; replace HB := Lib.hid (below_on HB.out hb); clear hb)))
   go_ret
   exact ⟨rfl, HB.out⟩
 have d : decide (xl ≤ 400) = true := decide_eq_true (Classical.not_not.1 hx)
 rw [d] at HL
 clear d hx
 go_enter Tryz.func4, Tryz.ntmps4
 go_wp2_with (first
  | (go_at_call 16; refine (HL.out _).mono ?_; rintro e w' ⟨rfl, hw⟩; rw [hw]; clear hw)
  | (go_at_call 18; go_must (refine (HR.out _ (sees_ups HSE.out HB.out)).mono ?_; rintro e w5 ⟨rfl, hd5, hb5⟩))
  | (go_at_call 13; go_must ((with_reducible refine (HPW.out _ (HM.out.2.1.on HB.out) HS.out).mono ?_); rintro e w1a ⟨A4, c4, rfl, hx, hb⟩; have HX := Lib.hid hx; replace HS := Lib.hid (Strs.on HS.out hb); replace HB := Lib.hid (below_on HB.out hb); clear hb hx))
  | (go_at_call 14; go_must ((with_reducible refine (HRW.out _ (HM.out.2.2.on HB.out) HS.out).mono ?_); rintro e w1b ⟨A5, c5, rfl, hx, hb⟩; have HY := Lib.hid hx; replace HX := Lib.hid (HX.out.on hb); replace HB := Lib.hid (below_on HB.out hb); clear hb hx))
  | (go_at_call 11; go_must ((with_reducible refine (p_awake _ (HM.out.1.on HB.out) (HM.out.2.1.on HB.out)).mono ?_); rintro e w1c ⟨rfl, hb⟩; replace HX := Lib.hid (HX.out.on hb); replace HY := Lib.hid (HY.out.on hb); replace HB := Lib.hid (below_on HB.out hb); clear hb))
  | (go_at_call 15; go_must ((with_reducible refine (HSA.out _ _ _ _ _ HX.out HY.out).mono ?_); rintro e w1d ⟨rfl, hb⟩; replace HB := Lib.hid (below_on HB.out hb); clear hb)))
 obtain ⟨D, hD⟩ : ∃ D, w1d.heap.size = D := ⟨_, rfl⟩
 rw [hD] at hd5 ⊢
 refine (dice_lines3 D w5 hd5).mono ?_
 rintro e w6 ⟨ls, k, A6, hsh, hwe, hk, rfl, hs6, hg6⟩
 have hbw : Below w1d.heap.size w1d w6 := below_row hb5 (by rw [hD]; exact hg6)
 replace HB := Lib.hid (below_on HB.out hbw)
 clear HS HX HY HPW HRW HSA HSE HL HR hbw hb5 hd5 hg6 hD
 obtain ⟨Z, hZ⟩ : ∃ Z, widO ls = Z := ⟨_, rfl⟩
 obtain ⟨zl, hzl⟩ : ∃ zl, Z.length = zl := ⟨_, rfl⟩
 have hsm := wid_small ls
 have hk3 := shape_len hsh
 rw [hk] at hk3
 have HPW := Lib.hid (fun w hG hs => p_widen ls A6 k k hk (by omega) w hG hs)
 have HRW := Lib.hid (fun w hG hs => r_widen ls A6 k k hk w hG hs)
 rw [hZ, hzl, hwe] at HPW HRW
 rw [hZ, hzl] at hsm
 have HSA := Lib.hid (fun A B c d w ha hb => r_same2 Z A B zl c d hzl hsm.1 hsm.2 w ha hb)
 have HS := Lib.hid hs6
 clear hsh hwe hk hs6 hZ hzl hsm hk3
 go_wp2_with (first
  | (go_at_call 13; go_must ((with_reducible refine (HPW.out _ (HM.out.2.1.on HB.out) HS.out).mono ?_); rintro e w2a ⟨A4, c4, rfl, hx, hb⟩; have HX := Lib.hid hx; replace HS := Lib.hid (Strs.on HS.out hb); replace HB := Lib.hid (below_on HB.out hb); clear hb hx))
  | (go_at_call 14; go_must ((with_reducible refine (HRW.out _ (HM.out.2.2.on HB.out) HS.out).mono ?_); rintro e w2b ⟨A5, c5, rfl, hx, hb⟩; have HY := Lib.hid hx; replace HX := Lib.hid (HX.out.on hb); replace HB := Lib.hid (below_on HB.out hb); clear hb hx))
  | (go_at_call 11; go_must ((with_reducible refine (p_awake _ (HM.out.1.on HB.out) (HM.out.2.1.on HB.out)).mono ?_); rintro e w2c ⟨rfl, hb⟩; replace HX := Lib.hid (HX.out.on hb); replace HY := Lib.hid (HY.out.on hb); replace HB := Lib.hid (below_on HB.out hb); clear hb))
  | (go_at_call 15; go_must ((with_reducible refine (HSA.out _ _ _ _ _ HX.out HY.out).mono ?_); rintro e w2d ⟨rfl, hb⟩; replace HB := Lib.hid (below_on HB.out hb); clear hb)))
 go_ret
 exact ⟨rfl, HB.out⟩
end Go.Proofs.YtibahbkjjfmbgaaGreatDoor
