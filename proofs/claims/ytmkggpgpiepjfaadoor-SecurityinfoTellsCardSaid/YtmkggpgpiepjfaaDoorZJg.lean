/-
  What is proved here: the makers' dice and what they stand on (parts of texts of earlier layers).
-/
import Derived.Test.YtmkggpgpiepjfaaDoorRows
import Derived.Test.YtmkggpgpiepjfaaDoorZG15
import Derived.BigQuiet
import Derived.Lib.Strings
import Derived.Lib.Slices
import Derived.Lib.Small
import Derived.Lib.Walk
import Derived.Lib.BitFns
import Derived.Deep.RegionWith
import Derived.Laws.ResultCell
import Derived.Laws.Rows
import Derived.ProofKit
import Derived.OpenShut
import Derived.ShutString
import Derived.ChangeOld
import Derived.SizedLaws
import Derived.Deep.CutRange
import Derived.Laws.AppendOwnNone
import Derived.Deep.RegionLaw
import Derived.Deep.AppendLies
import Derived.Lib.AppendZerosOnto
import Derived.Deep.DeepMust
namespace Go.Proofs.YtmkggpgpiepjfaaDoor
section
open Go.RowKit
theorem octL4 (n : Nat) : octL n 4 = [UInt8.ofNat (n / 16777216), UInt8.ofNat (n / 65536), UInt8.ofNat (n / 256), UInt8.ofNat n] := by
  have e : List.range 4 = [0, 1, 2, 3] := rfl
  simp [octL, e, octAt]
end
section
section
open Go.RowKit
set_option linter.unusedVariables false
end
section
open Go.RowKit
end
section
open Go.RowKit
end
section
open Go.RowKit
end
section
open Go.RowKit
end
section
open Go.RowKit
end
section
open Go.RowKit
section
variable {w0 w w' : World} {B g k k' cap N : Nat} {l l' : List UInt8} {a b c : Value}
end
end
section
open Go.RowKit
end
section
open Go.RowKit
end
section
open Go.RowKit
end
section
open Go.RowKit
end
section
open Go.RowKit
end
section
open Go.RowKit
set_option linter.unusedVariables false
end
section
open Go.RowKit
set_option linter.unusedVariables false
end
section
open Go.RowKit
set_option linter.unusedVariables false
end
section
open Go.RowKit
set_option linter.unusedVariables false
end
section
open Go.ChangeShapes Go.WideShapes Go.ChangeAt Go.RowKit
variable {H : Type} {enc : TypeId × Value → H} {W : World}
end
section
open Go.ChangeShapes Go.WideShapes Go.ChangeAt Go.RowKit
variable {H : Type} {enc : TypeId × Value → H} {W : World}
end
section
open Go.ChangeShapes Go.WideShapes Go.ChangeAt Go.RowKit
variable {H : Type} {enc : TypeId × Value → H} {W : World}
end
section
open Go.RowKit
end
section
open Go.RowKit
set_option linter.unusedVariables false
end
section
open Go.RowKit
set_option linter.unusedVariables false
end
section
open Go.RowKit
set_option linter.unusedVariables false
theorem app_bytes {P : Program} {w : World} {ops : Array Oper} {rest : List Oper} {o : Oper} {a : Act} {Q : Exit → Act → World → Prop} (hgd : o.guard = none) (s x : Operand) (t : TypeId)
    (ho : o.op = .call { callee := .builtin .append, args := #[s, x], argTypes := #[t, t] })
    (base : Nat) (e : TypeId) (i : TypeInfo) (z : Value) (ht : P.underlying t = some (.slice e)) (hi : P.info? e = some i) (hz : i.zero = some z)
    (hsize : i.size = 1) (hby : i.bytes = 1) (hzs : z.cells.size = 1)
    (v : Value) (n : Nat) (xs : List Value) (hs : a.eval s = v) (hown : w.ownsRow base e 1 v n xs)
    (A : Option Addr) (c : Nat) (cb : List UInt8) (p : Nat → Prop) (hx : a.eval x = .slice A cb.length c) (hn : A = none → c = 0) (hc : SeesP w p A (Us cb))
    (h63 : n + cb.length ≤ maxLen) (hbytes : n + cb.length ≤ 140737488355328) (hbase : base ≤ w.heap.size)
    (h : ∀ v' w', w'.ownsRow base e 1 v' (n + cb.length) (xs ++ Us cb) → w.grownBy w' v.ownBlock → wpList P ops Q rest (a.put o.dst v') w') : wpList P ops Q (o :: rest) a w := by
  cases A with
  | none =>
    have h1 : cb = [] := by have := congrArg List.length hc.none_nil; rw [Us_length] at this; exact List.eq_nil_of_length_eq_zero this
    have h2 := hn rfl
    subst h1 h2
    exact wpList_append_own_none hgd s x t ho base e i 1 ht hi v n xs hs hown hx (h v w (by simpa [Us] using hown) (World.grownBy.refl _ _))
  | some ad =>
    exact wpList_append_own w hgd s x t ho base e i z 1 1 ht hi hz hsize hby hzs (by decide) v n xs hs hown ad cb.length c (Us cb) hx (by rw [Us_length]; omega) (hc.src ad rfl) (Us_one _) h63 (by omega) hbase fun v' w' h1 h2 _ => h v' w' h1 h2
end
section
open Go.RowKit
set_option linter.unusedVariables false
end
section
open Go.RowKit
set_option linter.unusedVariables false
end
end
section
open Go.RowKit
set_option linter.unusedVariables false
section
variable {w w' : World} {p p' : Nat → Prop} {A : Option Addr} {cs : List Value}
end
end
section
open Go.RowKit
set_option linter.unusedVariables false
section
variable {w w' : World} {p p' : Nat → Prop} {A : Option Addr} {vs : List Value} {k : Nat}
end
end
section
open Go.RowKit
set_option linter.unusedVariables false
set_option linter.unusedSimpArgs false
end
section
open Go.RowKit
set_option linter.unusedVariables false
set_option linter.unusedSimpArgs false
end
section
open Go.RowKit
set_option linter.unusedVariables false
set_option linter.unusedSimpArgs false
end
section
open Go.RowKit
set_option linter.unusedVariables false
set_option linter.unusedSimpArgs false
def NewI4 (w : World) (v : List UInt8) (n : Nat) (e : Ending) (w' : World) : Prop := ∃ A c, e = .returned (.slice A n c) ∧ ((A = none → c = 0) ∧ n ≤ c) ∧ SeesP w' (newB w w') A (Us v) ∧ Below w.heap.size w w'
def PrimIs (w : World) (t : Int) (v : List UInt8) (n : Nat) (e : Ending) (w' : World) : Prop := ∃ A c, e = .returned (.agg (nodV t A n c none 0 0).toArray) ∧ ((A = none → c = 0) ∧ n ≤ c) ∧ SeesP w' (newB w w') A (Us v) ∧ Below w.heap.size w w'
end
section
open Go.RowKit
set_option linter.unusedVariables false
set_option linter.unusedSimpArgs false
theorem bs2 (u1 u2 u3 v1 v2 v3 : Value) : Tryd.prog.builtSlice 54 2 [(0, .agg #[u1, u2, u3]), (1, .agg #[v1, v2, v3])] = some #[u1, u2, u3, v1, v2, v3] := by kernel_rfl
def NodF (wr : World) (t : Int) (x : List UInt8) (n : Nat) (u : Value) (c : World) : Prop := ∃ A cv, u = .agg (nodV t A n cv none 0 0).toArray ∧ ((A = none → cv = 0) ∧ n ≤ cv) ∧ SeesP c (newB wr c) A (Us x)
theorem NodF.firm (wr : World) (t : Int) (x : List UInt8) (n : Nat) : Firm (NodF wr t x n) := by
  rintro u c c' ⟨A, cv, h1, h2, h3⟩ hb
  exact ⟨A, cv, h1, h2, h3.newOn hb⟩
theorem NodF.row {wr : World} {t : Int} {x : List UInt8} {n : Nat} {u : Value} {c c' : World} {v : Value} (h : NodF wr t x n u c) (hg : c.grownBy c' v.ownBlock) (hv : ∀ g, v.ownBlock = some g → g < wr.heap.size) : NodF wr t x n u c' := by
  obtain ⟨A, cv, h1, h2, h3⟩ := h
  refine ⟨A, cv, h1, h2, (h3.keep fun q hq => World.cell?_of_block (hg.block _ hq.2 fun e => ?_)).imp fun b hb => ⟨hb.1, Nat.lt_of_lt_of_le hb.2 hg.size⟩⟩
  have := hv _ e.symm
  have := hq.1
  omega
end
section
open Go.RowKit
set_option linter.unusedVariables false
set_option linter.unusedSimpArgs false
theorem octL1 (n : Nat) : octL n 1 = [UInt8.ofNat n] := by
  have e : List.range 1 = [0] := rfl
  simp [octL, e, octAt]
theorem u8_wrap (n : Nat) : Value.int .u8 (IntKind.u8.wrap (n : Int)) = U (UInt8.ofNat n) := by
  rw [IntKind.wrap_u8']
  simp [U]
theorem cv_u8 (n : Nat) (w : World) : (convert 3 5 (.int .i64 (n : Int))).run Tryd.prog w = .ok (U (UInt8.ofNat n)) w := by
  rw [← u8_wrap]
  kernel_rfl
theorem bsu1 (u : UInt8) : Tryd.prog.builtSlice 5 1 [(0, U u)] = some #[U u] := by kernel_rfl
theorem own_newB {w w' : World} {e : TypeId} {v : Value} {n : Nat} {l : List UInt8} (h : w'.ownsRow w.heap.size e 1 v n (Us l)) : ∃ A c, v = .slice A n c ∧ ((A = none → c = 0) ∧ n ≤ c) ∧ SeesP w' (newB w w') A (Us l) := by
  rcases h.2 with ⟨rfl, rfl⟩ | ⟨g, cap, cur, rfl, hb, hh, hn, hm, hs, ht⟩
  · have := h.1
    simp [Us_length] at this
    subst this
    exact ⟨none, 0, rfl, ⟨fun _ => rfl, Nat.le_refl _⟩, .inl rfl⟩
  · refine ⟨_, cap, rfl, ⟨fun h => (by cases h), hn⟩, .inr ⟨g, 0, rfl, ⟨hb, lt_of_block hh⟩, fun j hj => ?_⟩⟩
    have hl := h.1
    rw [Nat.zero_add, cell_of_row w' g j cur _ (0, 0) hh, ← ht, List.getElem?_take, if_pos (by omega), Array.getElem?_toList]
set_option maxHeartbeats 1600000 in
theorem r_prim (t : Int) (v : List UInt8) (n : Nat) (hn : v.length = n) (hm : n ≤ 140737488351232) (A : Option Addr) (c : Nat) (h0 : A = none → c = 0) (w : World) (hs : SeesP w (· < w.heap.size) A (Us v)) :
    Calls Tryd.prog 79 #[.int .i64 t, .slice A n c] w (PrimIs w t v n) := by
  obtain ⟨i0, hi, hz0, hz1, hz2⟩ := info_parts info_u8b
  have HS := Lib.hid (show _ ∧ _ ∧ _ from ⟨hs, hn, h0⟩)
  have HB := Lib.hid (Below.refl w.heap.size w)
  clear hs hn h0
  go_enter Tryd.func79, Tryd.ntmps79
  go_wp2_with (first
    | ((with_reducible refine at_alloc_ (d := 4) ?_); refine wpList_alloc_v (op := ⟨some 4, _, _, _, _, _⟩) rfl 54 rfl zerN info_n ?_; intro g4 w4 hf hr; have H4 := Lib.hid (show _ ∧ _ ∧ _ ∧ _ from ⟨hf.bl HB.out, hr, hf.ge HB.out, hf⟩); clear hf hr)
    | ((with_reducible refine at_call_ (d := 7) ?_); go_must (refine app_bytes rfl (.const (.slice none 0 0)) (.tmp 6) 23 rfl w4.heap.size 5 i0 (.int .u8 0) Tryd.underlying23 hi hz0 hz1 hz2 rfl (.slice none 0 0) 0 [] rfl (World.ownsRow_nil _ _ _ _) A c v _ (by rw [HS.out.2.1]; rfl) HS.out.2.2 (HS.out.1.on2 H4.out.1) (by unfold maxLen; rw [HS.out.2.1]; omega) (by rw [HS.out.2.1]; omega) (Nat.le_refl _) ?_); intro v7 w7 ho hg; rw [Nat.zero_add, HS.out.2.1, List.nil_append] at ho; obtain ⟨A7, c7, rfl, h7, s7⟩ := own_newB ho; have H7 := Lib.hid (show _ ∧ _ ∧ _ from ⟨h7, s7, grown_new hg⟩); clear ho hg h7 s7)
    | ((with_reducible refine at_store_ (i := 4) ?_); go_must (refine wpList_store_v rfl 54 (.tmp 4) (.tmp 8) rfl g4 zerN (nodV t A7 n c7 none 0 0) rfl rfl (H4.out.2.1.on H7.out.2.2) rfl (nodV_one _ _ _ _ _ _ _) size_n ?_); intro w8 hw hr; have H8 := Lib.hid (show _ ∧ _ from ⟨hw, hr⟩); clear hw hr))
  have hlt := H4.out.2.1.lt
  exact bodyPost_ret (results_v rfl _ _ g4 (nodV t A7 n c7 none 0 0) _ rfl H8.out.2 Tryd.underlying54 rfl size_n) rfl ⟨A7, c7, rfl, H7.out.1, (H7.out.2.1.keep fun q hq => World.cell?_of_block (H8.out.1.2.2.2.2 _ (by have := hq.1; omega))).imp fun b hb => ⟨Nat.le_trans H4.out.1.size hb.1, by rw [H8.out.1.2.2.2.1]; exact hb.2⟩, Wr.bl (below_on H4.out.1 H7.out.2.2) H8.out.1 H4.out.2.2.1⟩
set_option maxHeartbeats 800000 in
theorem r_cons (t : Int) (A : Option Addr) (lk ck : Nat) (w : World) :
    Calls Tryd.prog 53 #[.int .i64 t, .slice A lk ck] w fun e w' => e = .returned (.agg (nodV t none 0 0 A lk ck).toArray) ∧ Below w.heap.size w w' := by
  have HB := Lib.hid (Below.refl w.heap.size w)
  go_enter Tryd.func53, Tryd.ntmps53
  go_wp2_with (first
    | ((with_reducible refine at_alloc_ (d := 4) ?_); refine wpList_alloc_v (op := ⟨some 4, _, _, _, _, _⟩) rfl 54 rfl zerN info_n ?_; intro g4 w4 hf hr; have H4 := Lib.hid (show _ ∧ _ ∧ _ ∧ _ from ⟨hf.bl HB.out, hr, hf.ge HB.out, hf⟩); clear hf hr)
    | ((with_reducible refine at_store_ (i := 4) ?_); go_must (refine wpList_store_v rfl 54 (.tmp 4) (.tmp 7) rfl g4 zerN (nodV t none 0 0 A lk ck) rfl rfl H4.out.2.1 rfl (nodV_one _ _ _ _ _ _ _) size_n ?_); intro w8 hw hr; have H8 := Lib.hid (show _ ∧ _ from ⟨hw, hr⟩); clear hw hr))
  exact bodyPost_ret (results_v rfl _ _ g4 (nodV t none 0 0 A lk ck) _ rfl H8.out.2 Tryd.underlying54 rfl size_n) rfl ⟨rfl, Wr.bl H4.out.1 H8.out.1 H4.out.2.2.1⟩
theorem four_us (n : Nat) (hn : n < 4294967296) : Us (octL n 4) = [.int .u8 ((n : Int) / 16777216), .int .u8 ((n : Int) / 65536 % 256), .int .u8 ((n : Int) / 256 % 256), .int .u8 ((n : Int) % 256)] := by
  rw [octL4]
  simp [Us, U]
  omega
theorem r_four (n : Nat) (hn : n < 4294967296) (w : World) : Calls Tryd.prog 80 #[.int .i64 (n : Int)] w (NewI4 w (octL n 4) 4) := by
  have H := Lib.hid hn
  go_enter Tryd.func80, Tryd.ntmps80
  go_wp2
  go_ret
  refine ⟨some ⟨w.heap.size, 0, none⟩, 4, rfl, ⟨fun h => (by cases h), Nat.le_refl _⟩, .inr ⟨w.heap.size, 0, rfl, ⟨Nat.le_refl _, by simp⟩, fun j hj => ?_⟩, below_al1 _ _⟩
  rw [Nat.zero_add, cell_of_row _ _ j _ _ (0, 0) (heap_alloc_new w _), four_us n H.out]
  simp
end
end Go.Proofs.YtmkggpgpiepjfaaDoor
