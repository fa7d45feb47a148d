/-
  What is proved here: plain facts for layer 12: the digits of a choice one at a time; choices of a reading with further characters; sizes of readings that are changed at one place.
-/
import Derived.Test.YtibahbkjjfmbgaaGreatDoorUX3
import Derived.Test.YtibahbkjjfmbgaaGreatDoorUX4
import Derived.Test.YtibahbkjjfmbgaaGreatDoorUX6
import Derived.Test.YtibahbkjjfmbgaaGreatDoorUX5
import Derived.Maps.AppendAt
namespace Go.Proofs.YtibahbkjjfmbgaaGreatDoor
open Go.RowKit
set_option linter.unusedVariables false
def putL (L : List (List (List UInt8))) (i k : Nat) (s : List UInt8) : List (List (List UInt8)) := L.set i ((L.getD i []).set k s)
theorem putL_len (L : List (List (List UInt8))) (i k : Nat) (s : List UInt8) : (putL L i k s).length = L.length := by simp [putL]
theorem putL_row (L : List (List (List UInt8))) {i : Nat} (k : Nat) (s : List UInt8) (hi : i < L.length) (j : Nat) : (putL L i k s).getD j [] = if j = i then (L.getD i []).set k s else L.getD j [] := by
 unfold putL
 by_cases e : j = i
 · subst e; rw [if_pos rfl]; simp [List.getD, hi]
 · rw [if_neg e]; simp [List.getD, List.getElem?_set_ne (Ne.symm e)]
theorem putL_place (L : List (List (List UInt8))) {i k : Nat} (s : List UInt8) (hi : i < L.length) (hk : k < (L.getD i []).length) (j m : Nat) : ((putL L i k s).getD j []).getD m [] = if j = i ∧ m = k then s else (L.getD j []).getD m [] := by
 rw [putL_row L k s hi]
 by_cases e : j = i
 · subst e
   rw [if_pos rfl]
   generalize L.getD j [] = r at hk ⊢
   by_cases f : m = k
   · subst f; rw [if_pos ⟨rfl, rfl⟩]; simp [List.getD, hk]
   · rw [if_neg (fun h => f h.2)]; simp [List.getD, List.getElem?_set_ne (Ne.symm f)]
 · rw [if_neg e, if_neg (fun h => e h.1)]
theorem putL_lens (L : List (List (List UInt8))) {i : Nat} (k : Nat) (s : List UInt8) (hi : i < L.length) : (putL L i k s).map List.length = L.map List.length := by
 apply List.ext_getElem (by simp [putL_len])
 intro j h1 h2
 have h3 : j < L.length := by simpa using h2
 have h4 : j < (putL L i k s).length := by simpa using h1
 have h5 := putL_row L k s hi j
 simp only [List.getD_eq_getElem?_getD, List.getElem?_eq_getElem h3, List.getElem?_eq_getElem h4, List.getElem?_eq_getElem hi, Option.getD_some] at h5
 rw [List.getElem_map, List.getElem_map, h5]
 split
 · rename_i e; subst e; simp
 · rfl
theorem sizeL_set : ∀ (r : List (List UInt8)) (k : Nat) (s : List UInt8) (q : Nat), 1 ≤ q → s.length ≤ q * (r.getD k []).length → sizeL (r.set k s) ≤ q * sizeL r
 | [], _, _, q, hq, _ => by show 1 ≤ q * 1; omega
 | t :: r, 0, s, q, hq, h => by
  show s.length * sizeL r ≤ q * (t.length * sizeL r)
  rw [← Nat.mul_assoc]
  exact Nat.mul_le_mul_right _ h
 | t :: r, k + 1, s, q, hq, h => by
  have := sizeL_set r k s q hq h
  show t.length * sizeL (r.set k s) ≤ q * (t.length * sizeL r)
  rw [← Nat.mul_assoc, Nat.mul_comm q, Nat.mul_assoc]
  exact Nat.mul_le_mul_left _ this
theorem sizeS_set : ∀ (rs : List (List (List UInt8))) (i : Nat) (r' : List (List UInt8)) (q : Nat), 1 ≤ q → sizeL r' ≤ q * sizeL (rs.getD i []) → sizeS (rs.set i r') ≤ q * sizeS rs
 | [], _, _, q, hq, _ => by show 1 ≤ q * 1; omega
 | t :: r, 0, s, q, hq, h => by
  show sizeL s * sizeS r ≤ q * (sizeL t * sizeS r)
  rw [← Nat.mul_assoc]
  exact Nat.mul_le_mul_right _ h
 | t :: r, k + 1, s, q, hq, h => by
  have := sizeS_set r k s q hq h
  show sizeL t * sizeS (r.set k s) ≤ q * (sizeL t * sizeS r)
  rw [← Nat.mul_assoc, Nat.mul_comm q, Nat.mul_assoc]
  exact Nat.mul_le_mul_left _ this
theorem size_put (L : List (List (List UInt8))) (i k : Nat) (s : List UInt8) (q : Nat) (hq : 1 ≤ q) (h : s.length ≤ q * ((L.getD i []).getD k []).length) : sizeS (putL L i k s) ≤ q * sizeS L :=
 sizeS_set _ _ _ q hq (sizeL_set _ k s q hq h)
theorem filter_or (p q : Nat → Bool) : ∀ l : List Nat, (l.filter fun c => p c || q c).length ≤ (l.filter p).length + (l.filter q).length
 | [] => Nat.le_refl _
 | a :: l => by
  have := filter_or p q l
  cases hp : p a <;> cases hq : q a <;> simp only [List.filter_cons, hp, hq, Bool.or_true, Bool.or_false, Bool.or_self, if_true, if_false, Bool.false_eq_true, List.length_cons] <;> omega
theorem filter_one (a : Nat) : ∀ n, ((List.range n).filter fun c => a == c).length = if a < n then 1 else 0
 | 0 => rfl
 | n + 1 => by
  rw [List.range_succ, List.filter_append, List.length_append, filter_one a n]
  by_cases h : a = n
  · subst h; simp
  · have : (a == n) = false := by simpa using h
    simp only [List.filter_cons, List.filter_nil, this, Bool.false_eq_true, if_false, List.length_nil, Nat.add_zero]
    by_cases h2 : a < n
    · rw [if_pos h2, if_pos (by omega)]
    · rw [if_neg h2, if_neg (by omega)]
theorem sortU_le : ∀ x : List UInt8, (sortU x).length ≤ x.length
 | [] => by decide
 | a :: x => by
  have ih := sortU_le x
  unfold sortU at ih ⊢
  rw [List.length_map] at ih ⊢
  have h := filter_or (fun c => a.toNat == c) (fun c => x.any fun b => b.toNat == c) (List.range 256)
  have h1 := filter_one a.toNat 256
  have h2 : ((List.range 256).filter fun c => a.toNat == c).length ≤ 1 := by rw [h1]; split <;> omega
  show ((List.range 256).filter fun c => (a :: x).any fun b => b.toNat == c).length ≤ x.length + 1
  have e : (fun c => (a :: x).any fun b => b.toNat == c) = fun c => (a.toNat == c) || x.any fun b => b.toNat == c := by funext c; rfl
  rw [e]
  omega
theorem sizeL_dst : ∀ r : List (List UInt8), sizeL (r.map sortU) ≤ sizeL r
 | [] => Nat.le_refl _
 | s :: r => Nat.mul_le_mul (sortU_le s) (sizeL_dst r)
theorem size_dst : ∀ L : List (List (List UInt8)), sizeS (dst L) ≤ sizeS L
 | [] => Nat.le_refl _
 | r :: L => Nat.mul_le_mul (sizeL_dst r) (size_dst L)
theorem cmpl_iff (L : List (List (List UInt8))) : cmplL L = true ↔ shapeL (xL L) ≠ 0 ∧ ∀ i, i < L.length → ∀ k, k < (L.getD i []).length → (L.getD i []).getD k [] ≠ [] := by
 unfold cmplL
 rw [Bool.and_eq_true, List.all_eq_true]
 constructor
 · rintro ⟨h1, h2⟩
   refine ⟨by simpa using h1, fun i hi k hk => ?_⟩
   have hm : L.getD i [] ∈ L := by rw [List.getD_eq_getElem?_getD, List.getElem?_eq_getElem hi]; exact List.getElem_mem _
   have h3 := h2 _ hm
   generalize L.getD i [] = r at hk h3 ⊢
   rw [List.all_eq_true] at h3
   have := h3 (r.getD k []) (by rw [List.getD_eq_getElem?_getD, List.getElem?_eq_getElem hk]; exact List.getElem_mem _)
   simpa using this
 · rintro ⟨h1, h2⟩
   refine ⟨by simpa using h1, fun r hr => ?_⟩
   obtain ⟨i, hi, rfl⟩ := List.getElem_of_mem hr
   rw [List.all_eq_true]
   intro s hs
   obtain ⟨k, hk, rfl⟩ := List.getElem_of_mem hs
   have e : L.getD i [] = L[i] := by rw [List.getD_eq_getElem?_getD, List.getElem?_eq_getElem hi]; rfl
   have := h2 i hi k (by rw [e]; exact hk)
   rw [e, List.getD_eq_getElem?_getD, List.getElem?_eq_getElem hk, Option.getD_some] at this
   simpa using this
theorem cmpl_put {L : List (List (List UInt8))} (h : cmplL L = true) {i : Nat} (k : Nat) {s : List UInt8} (hi : i < L.length) (hk : k < (L.getD i []).length) (hs : s ≠ []) : cmplL (putL L i k s) = true := by
 rw [cmpl_iff] at h ⊢
 refine ⟨?_, fun j hj m hm => ?_⟩
 · have h1 := h.1
   have e1 := shape_lens (xL L)
   have e2 := shape_lens (xL (putL L i k s))
   rw [xL_lens] at e1 e2
   rw [putL_lens L k s hi] at e2
   intro h0
   exact (e1.1 h1) |> e2.2 |> fun h => h h0
 · rw [putL_len] at hj
   rw [putL_place L s hi hk]
   split
   · exact hs
   · refine h.2 j hj m ?_
     have := putL_row L k s hi j
     rw [this] at hm
     split at hm
     · rename_i e; subst e; simpa using hm
     · exact hm
theorem cnt_ok {L : List (List (List UInt8))} (h : cmplL L = true) (h2 : sizeS L ≤ 4096) : cntE L = 0 := by
 unfold cntE
 rw [if_neg (by rw [h]; decide), if_neg (by have := size_dst L; omega)]
theorem Rdg.open_ {w : World} {A : Option Addr} {L : List (List (List UInt8))} (h : Rdg w A L) (h0 : 0 < L.length) :
 ∃ b o, A = some ⟨b, o, none⟩ ∧ b < w.heap.size ∧ ∀ i, i < L.length → ∃ A' c, w.cell? ⟨b, o + i, none⟩ = some (.slice A' (L.getD i []).length c) ∧ Strs w A' (L.getD i []) := by
 obtain ⟨vs, h1, h2, h3⟩ := h
 obtain ⟨b, o, e, hb, hc⟩ := h1.at_ (k := 0) (by omega)
 refine ⟨b, o, e, hb, fun j hj => ?_⟩
 obtain ⟨A', c', h4, h5⟩ := h3 j (L.getD j []) (by simp [List.getD, hj])
 exact ⟨A', c', (hc j (by omega)).trans h4, h5⟩
theorem wpList_bin {P : Program} {ops : Array Oper} {rest : List Oper} {o : Oper} {a : Act} {w : World} {Q : Exit → Act → World → Prop} (hgd : o.guard = none) (b : BinOp) (T T2 : TypeId) (x y : Operand) (ho : o.op = .binOp b T x y T2) {v vx vy : Value} (hx : a.eval x = vx) (hy : a.eval y = vy)
 (hr : (do eqGuard b T x y vx vy; binOp b T vx vy).run P w = .ok v w) (hK : wpList P ops Q rest (a.put o.dst v) w) : wpList P ops Q (o :: rest) a w := by
 refine wpList_plain hgd fun K hK2 => ?_
 unfold Oper.wp execOp
 simp only [ho, hx, hy]
 rw [Sem.run_bind, hr]
 exact hK2 _ _ hK
theorem wpList_ix {P : Program} {ops : Array Oper} {rest : List Oper} {o : Oper} {a : Act} {w : World} {Q : Exit → Act → World → Prop} (hgd : o.guard = none) (T : TypeId) (x y : Operand) (ho : o.op = .index T x y) {v vx vy : Value} (hx : a.eval x = vx) (hy : a.eval y = vy)
 (hr : (Instr.index T vx vy).run P w = .ok v w) (hK : wpList P ops Q rest (a.put o.dst v) w) : wpList P ops Q (o :: rest) a w := by
 refine wpList_plain hgd fun K hK2 => ?_
 unfold Oper.wp execOp
 simp only [ho, hx, hy, Sem.run_bind, hr, Result.andThen_ok, Sem.run_pure]
 exact hK2 _ _ hK
theorem add_k2 (k : Nat) (h2 : k ≤ 4611686018427387904) (x y : Operand) (w : World) : (do eqGuard .add 3 x y (.int .i64 (k : Int)) (.int .i64 1); binOp .add 3 (.int .i64 (k : Int)) (.int .i64 1)).run Tryz.prog w = .ok (.int .i64 ((k + 1 : Nat) : Int)) w := by
 have h3 : IntKind.i64.wrap ((k : Int) + 1) = ((k + 1 : Nat) : Int) := by rw [show ((k : Int) + 1) = ((k + 1 : Nat) : Int) by omega]; exact wrap_small _ (by omega) (by omega)
 simp [eqGuard, binOp, go_sem, h3]
theorem wpList_add2 {ops : Array Oper} {rest : List Oper} {o : Oper} {a : Act} {w : World} {Q : Exit → Act → World → Prop} (hgd : o.guard = none) (T2 : TypeId) (x y : Operand) (ho : o.op = .binOp .add 3 x y T2) (k : Nat) (hx : a.eval x = .int .i64 (k : Int)) (hy : a.eval y = .int .i64 1) (hk : k ≤ 4611686018427387904)
 (hK : wpList Tryz.prog ops Q rest (a.put o.dst (.int .i64 ((k + 1 : Nat) : Int))) w) : wpList Tryz.prog ops Q (o :: rest) a w := wpList_plain hgd fun K hK2 => o_add _ _ x y ho hx hy (add_k2 k hk x y w) (hK2 _ _ hK)
theorem any_no {x : List UInt8} {j : Nat} (h : ∀ m, m < x.length → (x.getD m 0).toNat ≠ j) : (x.any fun b => b.toNat == j) = false := by
 rw [List.any_eq_false]
 intro b hb
 obtain ⟨k, hk, rfl⟩ := List.getElem_of_mem hb
 have := h k hk
 rw [List.getD_eq_getElem?_getD, List.getElem?_eq_getElem hk, Option.getD_some] at this
 simpa using this
theorem any_yes {x : List UInt8} {j k : Nat} (hk : k < x.length) (h : (x.getD k 0).toNat = j) : (x.any fun b => b.toNat == j) = true := by
 rw [List.any_eq_true]
 refine ⟨x[k], List.getElem_mem hk, ?_⟩
 rw [List.getD_eq_getElem?_getD, List.getElem?_eq_getElem hk, Option.getD_some] at h
 simpa using h
set_option maxHeartbeats 1600000 in
set_option maxRecDepth 20000 in
theorem r_sorted (x : List UInt8) (hxl : x.length ≤ 4611686018427387904) (w : World) :
 Calls Tryz.prog 44 #[.string (S x)] w fun e w' => e = .returned (.string (S (sortU x))) ∧ w = w' := by
 obtain ⟨s, hs⟩ : ∃ s, S x = s := ⟨_, rfl⟩
 obtain ⟨n, hn⟩ : ∃ n, x.length = n := ⟨_, rfl⟩
 have hsz2 : s.size = n := by rw [← hs, S_size, hn]
 have hsz : (s.size : Int) = (n : Int) := by omega
 have HN := Lib.hid hn
 have HIX : Hid (∀ k, k < n → ∀ w, (Instr.index 9 (.string s) (.int .i64 (k : Int))).run Tryz.prog w = .ok (.int .u8 ((x.getD k 0).toNat : Int)) w) := Lib.hid (by rw [← hs, ← hn]; exact fun k hk w => str_byte x k hk w)
 have HSL : Hid (∀ k, k < n → ∀ w, (Instr.sliceAt 9 (.string s) (some (.int .i64 (k : Int))) (some (.int .i64 ((k + 1 : Nat) : Int))) none).run Tryz.prog w = .ok (.string (S [x.getD k 0])) w) := Lib.hid (by rw [← hs, ← hn]; exact fun k hk w => slice_one x k hk w)
 rw [hn] at hxl
 rw [hs]
 clear hs hn
 go_enter Tryz.func44, Tryz.ntmps44
 go_wp2
 go_loopw [4, 3] (fun i v wr => ∃ (j : Nat) (o : ByteArray), j ≤ 256 ∧ i = .int .i64 (j : Int) ∧ v = .string o ∧ o.size ≤ j ∧ Hid (o = S (sortTo x j)) ∧ w = wr) (fun i _ _ => 256 - (intOf i).toNat)
 case atStart => exact ⟨0, ⟨#[]⟩, by omega, rfl, rfl, by decide, Lib.hid rfl, rfl⟩
 case round =>
  obtain ⟨j, o, hj, rfl, rfl, hoz, HO, rfl⟩ := hrel
  by_cases hlt : j < 256
  ·
   have hj0 : (j : Int) < 256 := by omega
   go_wp2
   go_loopw [5, 3] (fun i v wr => ∃ (k : Nat), k ≤ n ∧ i = .int .i64 (k : Int) ∧ v = .string o ∧ Hid (w = wr ∧ ∀ m, m < k → (x.getD m 0).toNat ≠ j)) (fun i _ _ => n - (intOf i).toNat)
   case atStart => exact ⟨0, by omega, rfl, rfl, Lib.hid ⟨rfl, fun m hm => by omega⟩⟩
   case round =>
    obtain ⟨k, hk, rfl, rfl, HK⟩ := hrel
    obtain rfl := HK.out.1
    by_cases hlk : k < n
    ·
     have hk0 : (k : Int) < (n : Int) := by omega
     have hix := HIX.out k hlk
     have hsl := HSL.out k hlk
     obtain ⟨b, hb⟩ : ∃ b, (x.getD k 0).toNat = b := ⟨_, rfl⟩
     have hb2 : b < 256 := by rw [← hb]; exact UInt8.toNat_lt _
     rw [hb] at hix
     obtain ⟨s1, hs1⟩ : ∃ s1, S [x.getD k 0] = s1 := ⟨_, rfl⟩
     have hs1z : s1.size = 1 := by rw [← hs1]; rfl
     rw [hs1] at hsl
     have HB := Lib.hid hb
     have HS1 := Lib.hid hs1
     have HSS := Lib.hid hsl
     clear hb hs1 hsl
     by_cases hbc : b = j
     ·
      have HE := Lib.hid hbc
      have hbi : (b : Int) = (j : Int) := by omega
      clear hbc
      go_wp2_with (first
       | ((with_reducible refine at_any_ (d := 26) ?_); refine wpList_add2 rfl _ _ _ rfl k rfl rfl (by omega) ?_)
       | ((with_reducible refine at_any_ (d := 9) ?_); refine wpList_add2 rfl _ _ _ rfl j rfl rfl (by omega) ?_)
       | ((with_reducible refine at_slice_ (d := 27) ?_); refine wpList_sl rfl _ _ _ _ _ rfl (v := .string s1) rfl rfl rfl rfl (HSS.out _) ?_))
      go_roundw
      case rel =>
       refine ⟨j + 1, o ++ s1, by omega, by first | rfl | go_num, rfl, by rw [ByteArray.size_append]; omega, Lib.hid ?_, by first | rfl | trivial⟩
       rw [HO.out, ← HS1.out, sortTo_succ, if_pos (any_yes (k := k) (by rw [HN.out]; exact hlk) (by rw [HB.out, HE.out])), S_append]
       have : x.getD k 0 = UInt8.ofNat j := by rw [← HE.out, ← HB.out, UInt8.ofNat_toNat]
       rw [this]
      case measure => simp [intOf]; omega
     · have HE := Lib.hid hbc
       have hbi : ¬ ((b : Int) = (j : Int)) := by omega
       have hbn : (b = j) = False := by simpa using hbc
       clear hbc
       go_wp2_with (first
        | ((with_reducible refine at_any_ (d := 15) ?_); refine wpList_add2 rfl _ _ _ rfl k rfl rfl (by omega) ?_))
       go_roundw
       case rel => exact ⟨k + 1, by omega, by first | rfl | go_num, rfl, Lib.hid ⟨by first | rfl | trivial, fun m hm => by
        by_cases e : m = k
        · rw [e, HB.out]; exact HE.out
        · exact HK.out.2 m (by omega)⟩⟩
       case measure => simp [intOf]; omega
    · obtain rfl : k = n := by omega
      go_wp2_with (first
       | ((with_reducible refine at_any_ (d := 9) ?_); refine wpList_add2 rfl _ _ _ rfl j rfl rfl (by omega) ?_))
      go_roundw
      case rel =>
       refine ⟨j + 1, o, by omega, by first | rfl | go_num, rfl, by omega, Lib.hid ?_, by first | rfl | trivial⟩
       rw [HO.out, sortTo_succ, any_no (by rw [HN.out]; exact HK.out.2)]
       simp
      case measure => simp [intOf]; omega
  · obtain rfl : j = 256 := by omega
    go_wp2
    go_ret
    exact ⟨by rw [HO.out, sortTo_all]; rfl, rfl⟩
def RdO (w : World) (base : Nat) (v : Value) (vs : List Value) (Xs : List (List (List UInt8))) : Prop :=
 vs.length = Xs.length ∧ ∀ (i : Nat) (x : List (List UInt8)), Xs[i]? = some x → ∃ g, base ≤ g ∧ v.ownBlock ≠ some g ∧ vs[i]? = some (.slice (some ⟨g, 0, none⟩) x.length x.length) ∧ RowV w g (strV x)
theorem RdO.nil_ {w : World} {base : Nat} {v : Value} : RdO w base v [] [] := ⟨rfl, fun i x h => by simp at h⟩
theorem RdO.keep {w w' : World} {base : Nat} {v : Value} {vs : List Value} {Xs : List (List (List UInt8))} (h : RdO w base v vs Xs) (hk : ∀ g, base ≤ g → v.ownBlock ≠ some g → g < w.heap.size → w'.heap[g]? = w.heap[g]?) : RdO w' base v vs Xs :=
 ⟨h.1, fun i x hx => by
  obtain ⟨g, h1, h2, h3, h4⟩ := h.2 i x hx
  exact ⟨g, h1, h2, h3, h4.same (hk g h1 h2 h4.lt)⟩⟩
theorem RdO.on {w w' : World} {base : Nat} {v : Value} {vs : List Value} {Xs : List (List (List UInt8))} (h : RdO w base v vs Xs) (hb : Below w.heap.size w w') : RdO w' base v vs Xs := h.keep fun g _ _ hg => hb.block g hg
theorem RdO.snoc {w w' : World} {base g : Nat} {v v' : Value} {vs : List Value} {Xs : List (List (List UInt8))} {x : List (List UInt8)} (h : RdO w base v vs Xs) (hg : w.grownBy w' v.ownBlock) (hv : v'.ownBlock = v.ownBlock ∨ v'.ownBlock = some w.heap.size)
 (h1 : base ≤ g) (h2 : v.ownBlock ≠ some g) (h3 : RowV w g (strV x)) : RdO w' base v' (vs ++ [.slice (some ⟨g, 0, none⟩) x.length x.length]) (Xs ++ [x]) := by
 have key : ∀ k, v.ownBlock ≠ some k → k < w.heap.size → v'.ownBlock ≠ some k := fun k hk hlt => by
  rcases hv with e | e
  · rw [e]; exact hk
  · rw [e]; intro e2; injection e2 with e2; omega
 refine ⟨by simp [h.1], fun i y hy => ?_⟩
 rw [List.getElem?_append] at hy ⊢
 rw [h.1]
 split at hy
 · rename_i hlt
   rw [if_pos hlt]
   obtain ⟨k, a1, a2, a3, a4⟩ := h.2 i y hy
   exact ⟨k, a1, key k a2 a4.lt, a3, a4.same (hg.block k a4.lt (fun e => a2 e.symm))⟩
 · rename_i hlt
   rw [if_neg hlt]
   have h0 : i - Xs.length = 0 := by
    have := (List.getElem?_eq_some_iff.1 hy).1
    simpa using this
   rw [h0] at hy ⊢
   simp at hy
   subst hy
   exact ⟨g, h1, key g h2 h3.lt, by simp, h3.same (hg.block g h3.lt (fun e => h2 e.symm))⟩
theorem own_on {w w' : World} {base : Nat} {e : TypeId} {s n : Nat} {v : Value} {xs : List Value} (h : w.ownsRow base e s v n xs) (hb : Below w.heap.size w w') : w'.ownsRow base e s v n xs := by
 refine ⟨h.1, h.2.imp id ?_⟩
 rintro ⟨g, cap, cur, h1, h2, h3, h4⟩
 have hlt : g < w.heap.size := (Array.getElem?_eq_some_iff.1 h3).1
 exact ⟨g, cap, cur, h1, h2, (hb.block g hlt).trans h3, h4⟩
end Go.Proofs.YtibahbkjjfmbgaaGreatDoor
