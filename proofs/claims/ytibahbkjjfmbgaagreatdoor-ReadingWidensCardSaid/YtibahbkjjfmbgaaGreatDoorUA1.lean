/-
  What is proved here: plain words for byte slices that lie in memory (what a slice reads as, that it is kept while other blocks are made and written), with no condition; nothing of the program is used.
-/
import Derived.WalkKit
import Derived.Deep.QuietTactic
import Derived.BigQuiet
import Derived.Lib.Hide
import Derived.Deep.RegionLaw
import Derived.Deep.AppendLies
import Derived.Test.YtibahbkjjfmbgaaGreatDoorRows
import Derived.Laws.IdiomStrings
import Derived.Lib.SmallJoins
import Derived.Laws.ResultCell
import Derived.Laws.Rows
namespace Go.Proofs.YtibahbkjjfmbgaaGreatDoor
open Go.RowKit
def U (c : UInt8) : Value := .int .u8 (c.toNat : Int)
def Us (l : List UInt8) : List Value := l.map U
theorem Us_length (l : List UInt8) : (Us l).length = l.length := by simp [Us]
theorem Us_get {l : List UInt8} {k : Nat} (h : k < l.length) : (Us l)[k]? = some (.int .u8 (l[k].toNat : Int)) := by
 simp [Us, U, h]
theorem Us_append (a b : List UInt8) : Us (a ++ b) = Us a ++ Us b := by simp [Us]
def Sees (w : World) (B : Nat) (A : Option Addr) (cs : List Value) : Prop :=
 cs = [] ∨ ∃ b off, A = some ⟨b, off, none⟩ ∧ b < B ∧ ∀ j, j < cs.length → w.cell? ⟨b, off + j, none⟩ = cs[j]?
section
variable {w w' : World} {B B' : Nat} {A : Option Addr} {cs : List Value}
theorem Sees.at_ {k : Nat} (h : Sees w B A cs) (hk : k < cs.length) :
 ∃ b off, A = some ⟨b, off, none⟩ ∧ b < B ∧ ∀ j, j < cs.length → w.cell? ⟨b, off + j, none⟩ = cs[j]? := by
 rcases h with rfl | h
 · simp at hk
 · exact h
theorem Sees.keep (h : Sees w B A cs) (hk : ∀ p : Addr, p.block < B → w'.cell? p = w.cell? p) : Sees w' B A cs := by
 rcases h with h | ⟨b, off, e, hb, hc⟩
 · exact .inl h
 · exact .inr ⟨b, off, e, hb, fun j hj => (hk _ hb).trans (hc j hj)⟩
theorem Sees.more (h : Sees w B A cs) (hB : B ≤ B') : Sees w B' A cs := by
 rcases h with h | ⟨b, off, e, hb, hc⟩
 · exact .inl h
 · exact .inr ⟨b, off, e, by omega, hc⟩
theorem Sees.below (h : Sees w B A cs) (hb : Below B w w') : Sees w' B A cs := h.keep fun _ hp => hb.cell hp
theorem Sees.drewN (h : Sees w B A cs) (n : Nat) : Sees (w.drewN n) B A cs := h
theorem Sees.drew (h : Sees w B A cs) : Sees w.drew B A cs := h
theorem Sees.alloc (h : Sees w B A cs) (hB : B ≤ w.heap.size) (o : Obj) : Sees (w.alloc o) B A cs := h.keep fun p hp => World.cell?_alloc_lt w o p (by omega)
theorem Sees.take (h : Sees w B A cs) (k : Nat) : Sees w B A (cs.take k) := by
 rcases h with rfl | ⟨b, off, e, hb, hc⟩
 · exact .inl (by simp)
 · refine .inr ⟨b, off, e, hb, fun j hj => ?_⟩
   rw [List.length_take] at hj
   rw [hc j (by omega), List.getElem?_take, if_pos (by omega)]
theorem Sees.cut (h : Sees w B A cs) {k : Nat} (hk : k < cs.length) : Sees w B (A.map (·.add k)) (cs.drop k) := by
 obtain ⟨b, off, rfl, hb, hc⟩ := h.at_ (k := k) hk
 refine .inr ⟨b, off + k, ?_, hb, fun j hj => ?_⟩
 · simp only [Option.map_some, Option.some.injEq]
   unfold Addr.add; split <;> simp_all
 · rw [List.length_drop] at hj
   rw [Nat.add_assoc, hc _ (by omega), List.getElem?_drop]
theorem Sees.of_own {base : Nat} {e : TypeId} {n c : Nat} (h : w.ownsRow base e 1 (.slice A n c) n cs) : Sees w w.heap.size A cs := by
 obtain ⟨hl, h⟩ := h
 rcases h with ⟨_, rfl⟩ | ⟨g, cap, cur, hv, hg, hh, hn, hm, hs, ht⟩
 · exact .inl (List.eq_nil_of_length_eq_zero (by simpa using hl))
 · injection hv with hv
   refine .inr ⟨g, 0, hv, ?_, fun j hj => ?_⟩
   · rcases Nat.lt_or_ge g w.heap.size with h | h
     · exact h
     · rw [Array.getElem?_eq_none h] at hh; cases hh
   · rw [Nat.zero_add, cell_of_row w g j cur e (0, 0) hh, ← ht, List.getElem?_take, if_pos (by omega), Array.getElem?_toList]
end
theorem Sees.on {w w' : World} {A : Option Addr} {cs : List Value} (h : Sees w w.heap.size A cs) (hb : Below w.heap.size w w') : Sees w' w'.heap.size A cs := (h.below hb).more hb.size
theorem below_on {w w' w2 : World} (h : Below w.heap.size w w') (hb : Below w'.heap.size w' w2) : Below w.heap.size w w2 := h.trans (hb.mono h.size)
theorem below_drewN (B : Nat) (w : World) (n : Nat) : Below B w (w.drewN n) := ⟨rfl, rfl, rfl, Nat.le_refl _, fun _ _ => rfl⟩
theorem Us_set (l : List UInt8) (j : Nat) (v : UInt8) : (Us l).set j (U v) = Us (l.set j v) := by simp [Us, List.map_set]
theorem Us_zeros (n : Nat) : Us (List.replicate n 0) = List.replicate n (.int .u8 0) := by simp [Us, U]
def Gives (w : World) (bs : List UInt8) (er : Int) (e : Ending) (w' : World) : Prop :=
 ∃ A c, e = .returned (.tuple #[.slice A bs.length c, .int .i64 er]) ∧ Sees w' w'.heap.size A (Us bs) ∧ Below w.heap.size w w'
theorem news_of_one (w : World) (u : Value) (t : TypeId) : ∀ j v, [u][j]? = some v → (w.alloc (.cells #[u] t)).cell? ((⟨w.heap.size, 0, none⟩ : Addr).add j) = some v :=
 World.news_of_block (heap_alloc_new w _)
theorem below_dn {B : Nat} {a w : World} (h : Below B a w) (n : Nat) : Below B a (w.drewN n) := ⟨h.os, h.tape, h.output, h.size, h.block⟩
theorem own_form {w : World} {base : Nat} {e : TypeId} {v : Value} {n : Nat} {xs : List Value} (h : w.ownsRow base e 1 v n xs) : ∃ A c, v = .slice A n c := by
 rcases h.2 with ⟨rfl, rfl⟩ | ⟨g, cap, _, rfl, _⟩
 · exact ⟨none, 0, rfl⟩
 · exact ⟨_, cap, rfl⟩
theorem Gives.drewN {w : World} {bs : List UInt8} {er : Int} {e : Ending} {w' : World} (h : Gives w bs er e w') (n : Nat) : Gives w bs er e (w'.drewN n) := by
 obtain ⟨A, c, he, hs, hb⟩ := h
 exact ⟨A, c, he, hs, below_dn hb n⟩
theorem own_new {w w' : World} {base : Nat} {e : TypeId} {size : Nat} {v : Value} {n : Nat} {xs : List Value} (h : w.ownsRow base e size v n xs) (hg : w.grownBy w' none) : w'.ownsRow base e size v n xs := by
 refine h.kept hg ?_
 rcases h.2 with ⟨rfl, _⟩ | ⟨g, cap, cur, rfl, _⟩
 · left; rfl
 · right; simp [Value.ownBlock]
theorem own_far {w w' : World} {base : Nat} {e : TypeId} {size : Nat} {v : Value} {n : Nat} {xs : List Value} {g : Nat} (h : w.ownsRow base e size v n xs) (hg : w.grownBy w' (some g)) (hne : v.ownBlock ≠ some g) : w'.ownsRow base e size v n xs :=
 h.kept hg (.inr hne)
def S (x : List UInt8) : ByteArray := ⟨x.toArray⟩
theorem S_size (x : List UInt8) : (S x).size = x.length := by simp [S, ByteArray.size]
theorem S_data (x : List UInt8) : (S x).data.toList = x := by simp [S]
theorem run_conv (w : World) (B : Nat) (A : Option Addr) (x : List UInt8) (h : Sees w B A (Us x)) (n c : Nat) (hn : n = x.length) :
 (convert 59 9 (.slice A n c)).run Tryz.prog w = .ok (.string (S x)) w := by
 subst hn
 have hx : strOfNums (x.map fun u => (u.toNat : Int)) = S x := by
  simp [strOfNums, S, Function.comp_def]
 rcases h with h | ⟨b, off, rfl, hb, hc⟩
 · have : x = [] := by simpa [Us] using h
   subst this
   rcases A with _ | a
   · exact run_convert_bytes_nil w _ _ Tryz.underlying59 Tryz.underlying5 _ _ _ Tryz.underlying9
   · rw [run_convert_bytes_string w _ _ _ _ _ _ Tryz.underlying59 Tryz.underlying5 Tryz.underlying9]
     exact run_bytesToString w a 0 c [] (by simpa using run_loadCells_list (P := Tryz.prog) w a [] (fun j v hj => by simp at hj))
 · have := run_convert_bytes_arg (P := Tryz.prog) w 59 5 Tryz.underlying59 Tryz.underlying5 b off x.length c (x.map fun u => (u.toNat : Int)) (by simp)
    (fun i hi => by rw [hc i (by rw [Us_length]; exact hi), Us_get hi]; simp [hi]) 9 Tryz.underlying9
   rw [hx] at this
   exact this
theorem S_toList (x : List UInt8) : (S x).toList = x := ByteArray.toList_mk x
def cB (x : List UInt8) (i : Nat) : Int := ((x.getD i 0).toNat : Int)
theorem cB_nn (x : List UInt8) (i : Nat) : 0 ≤ cB x i := by unfold cB; omega
theorem cB_le (x : List UInt8) (i : Nat) : cB x i ≤ 255 := by unfold cB; have := UInt8.toNat_lt (x.getD i 0); omega
theorem s_at {s : ByteArray} {x : List UInt8} (h : s = S x) (i : Nat) (hi : i < s.size) : ((s[i]'hi).toNat : Int) = cB x i := by
 subst h
 have hx : i < x.length := by simpa [S_size] using hi
 show ((x.toArray[i]'(by simpa using hx)).toNat : Int) = cB x i
 simp [cB, hx]
theorem cB_get {x : List UInt8} {i : Nat} (h : i < x.length) : cB x i = (x[i].toNat : Int) := by simp [cB, h]
def vI (n : Int) : Int := if 48 ≤ n ∧ n ≤ 57 then n - 48 else if 65 ≤ n ∧ n ≤ 90 then n - 55 else if n = 60 then 0 else -1
theorem vI_le (n : Int) : -1 ≤ vI n ∧ vI n ≤ 35 := by unfold vI; repeat' split <;> omega
theorem vI_1 {n : Int} (h : 48 ≤ n) (k : n ≤ 57) : vI n = n - 48 := by unfold vI; rw [if_pos ⟨h, k⟩]
theorem vI_2 {n : Int} (h : 65 ≤ n) (k : n ≤ 90) : vI n = n - 55 := by unfold vI; rw [if_neg (by omega), if_pos ⟨h, k⟩]
theorem vI_3 {n : Int} (h : n = 60) : vI n = 0 := by unfold vI; rw [if_neg (by omega), if_neg (by omega), if_pos h]
theorem vI_4 {n : Int} (h1 : ¬ (48 ≤ n ∧ n ≤ 57)) (h2 : ¬ (65 ≤ n ∧ n ≤ 90)) (h3 : n ≠ 60) : vI n = -1 := by
 unfold vI; rw [if_neg h1, if_neg h2, if_neg h3]
theorem v_cases (n : Int) : n < 48 ∨ (48 ≤ n ∧ n ≤ 57) ∨ (57 < n ∧ n < 60) ∨ n = 60 ∨ (60 < n ∧ n < 65) ∨ (65 ≤ n ∧ n ≤ 90) ∨ 90 < n := by omega
theorem ret_int {k : IntKind} {a b : Int} (h : a = b) : Ending.returned (.int k a) = .returned (.int k b) := by rw [h]
theorem p_value (n v : Int) (hv : vI n = v) (h0 : 0 ≤ n) (h1 : n ≤ 255) (w : World) :
 Calls Tryz.prog 32 #[.int .u8 n] w fun e w' => e = .returned (.int .i64 v) ∧ w' = w := by
 have HV := Lib.hid hv
 clear hv
 rcases v_cases n with h | h | h | h | h | h | h
 all_goals
  go_enter Tryz.func32, Tryz.ntmps32
  go_wp2
  go_ret
  refine ⟨ret_int ?_, rfl⟩
  rw [← HV.out]
  first
  | (rw [vI_1 (by omega) (by omega)]; done)
  | (rw [vI_2 (by omega) (by omega)]; show _ = _; omega)
  | (rw [vI_3 (by omega)]; done)
  | (rw [vI_4 (by omega) (by omega) (by omega)]; done)
theorem r_value (n v : Int) (hv : vI n = v) (h0 : 0 ≤ n) (h1 : n ≤ 255) (w : World) :
 Calls Tryz.prog 34 #[.int .u8 n] w fun e w' => e = .returned (.int .i64 v) ∧ w' = w := by
 have HV := Lib.hid hv
 clear hv
 rcases v_cases n with h | h | h | h | h | h | h
 all_goals
  go_enter Tryz.func34, Tryz.ntmps34
  go_wp2
  go_ret
  refine ⟨ret_int ?_, rfl⟩
  rw [← HV.out]
  first
  | (rw [vI_1 (by omega) (by omega)]; done)
  | (rw [vI_2 (by omega) (by omega)]; show _ = _; omega)
  | (rw [vI_3 (by omega)]; done)
  | (rw [vI_4 (by omega) (by omega) (by omega)]; done)
def validL (x : List UInt8) : Bool := x.all fun b => decide (0 ≤ vI (b.toNat : Int))
theorem validL_bad {x : List UInt8} {k : Nat} (hk : k < x.length) (h : vI (cB x k) < 0) : validL x = false := by
 unfold validL
 rw [List.all_eq_false]
 refine ⟨x[k], List.getElem_mem hk, ?_⟩
 rw [cB_get hk] at h
 simpa using h
theorem validL_good {x : List UInt8} (h : ∀ k, k < x.length → 0 ≤ vI (cB x k)) : validL x = true := by
 unfold validL
 rw [List.all_eq_true]
 intro b hb
 obtain ⟨k, hk, rfl⟩ := List.getElem_of_mem hb
 have := h k hk
 rw [cB_get hk] at this
 simpa using this
theorem validL_at {x : List UInt8} (h : validL x = true) (k : Nat) (hk : k < x.length) : 0 ≤ vI (cB x k) := by
 unfold validL at h
 rw [List.all_eq_true] at h
 have := h x[k] (List.getElem_mem hk)
 rw [cB_get hk]
 simpa using this
theorem p_valid (s : ByteArray) (x : List UInt8) (hx : s = S x) (w : World) (hm : s.size ≤ maxLen) :
 Calls Tryz.prog 37 #[.string s] w fun e w' => e = .returned (.bool (validL x)) ∧ w' = w := by
 unfold maxLen at hm
 have hl : s.size = x.length := by rw [hx, S_size]
 have HX := Lib.hid hx
 have HL := Lib.hid hl
 clear hx hl
 go_enter Tryz.func37, Tryz.ntmps37
 go_wp2
 go_loop [6] (fun i => ∃ k : Nat, k ≤ s.size ∧ i = .int .i64 k ∧ Hid (∀ j, j < k → 0 ≤ vI (cB x j))) (fun i => s.size - (intOf i).toNat)
 case atStart => exact ⟨0, Nat.zero_le _, rfl, Lib.hid (fun j h => by omega)⟩
 case round =>
  obtain ⟨k, hk, rfl, HG⟩ := hrel
  by_cases hlt : k < s.size
  ·
   have hc := s_at HX.out k hlt
   have c0 := cB_nn x k
   have c1 := cB_le x k
   obtain ⟨v, hv⟩ : ∃ v, vI (cB x k) = v := ⟨_, rfl⟩
   have HV := Lib.hid hv
   have hvs : vI ((s[k]'hlt).toNat : Int) = v := by rw [hc]; exact hv
   have HVS := Lib.hid hvs
   clear hv hvs hc c0 c1
   by_cases hn : v < 0
   · have hb : validL x = false := validL_bad (k := k) (by have := HL.out; omega) (by rw [HV.out]; exact hn)
     have d1 : decide (v < 0) = true := by simpa using hn
     go_wp2_with (go_at_call 32; refine (p_value _ v HVS.out (by omega) (by have := UInt8.toNat_lt (s[k]'hlt); omega) _).mono ?_; rintro e w' ⟨rfl, rfl⟩)
     go_ret
     first | exact ⟨rfl, rfl⟩ | exact ⟨by rw [hb]; rfl, rfl⟩
   · have d1 : decide (v < 0) = false := by simpa using hn
     go_wp2_with (go_at_call 32; refine (p_value _ v HVS.out (by omega) (by have := UInt8.toNat_lt (s[k]'hlt); omega) _).mono ?_; rintro e w' ⟨rfl, rfl⟩)
     go_round
     case rel =>
      refine ⟨k + 1, by omega, by go_num, Lib.hid (fun j hj => ?_)⟩
      rcases Nat.lt_or_ge j k with h | h
      · exact HG.out j h
      · obtain rfl : j = k := by omega
        rw [HV.out]; omega
     case measure => simp [intOf]; omega
  · have hb : validL x = true := validL_good (fun j hj => HG.out j (by have := HL.out; omega))
    go_wp2
    go_ret
    first | exact ⟨rfl, rfl⟩ | exact ⟨by rw [hb]; rfl, rfl⟩
theorem r_valid (s : ByteArray) (x : List UInt8) (hx : s = S x) (w : World) (hm : s.size ≤ maxLen) :
 Calls Tryz.prog 41 #[.string s] w fun e w' => e = .returned (.bool (validL x)) ∧ w' = w := by
 unfold maxLen at hm
 have hl : s.size = x.length := by rw [hx, S_size]
 have HX := Lib.hid hx
 have HL := Lib.hid hl
 clear hx hl
 go_enter Tryz.func41, Tryz.ntmps41
 go_wp2
 go_loop [3] (fun i => ∃ k : Nat, k ≤ s.size ∧ i = .int .i64 k ∧ Hid (∀ j, j < k → 0 ≤ vI (cB x j))) (fun i => s.size - (intOf i).toNat)
 case atStart => exact ⟨0, Nat.zero_le _, rfl, Lib.hid (fun j h => by omega)⟩
 case round =>
  obtain ⟨k, hk, rfl, HG⟩ := hrel
  by_cases hlt : k < s.size
  ·
   have hc := s_at HX.out k hlt
   obtain ⟨v, hv⟩ : ∃ v, vI (cB x k) = v := ⟨_, rfl⟩
   have HV := Lib.hid hv
   have hvs : vI ((s[k]'hlt).toNat : Int) = v := by rw [hc]; exact hv
   have HVS := Lib.hid hvs
   clear hv hvs hc
   by_cases hn : v < 0
   · have hb : validL x = false := validL_bad (k := k) (by have := HL.out; omega) (by rw [HV.out]; exact hn)
     have d1 : decide (v < 0) = true := by simpa using hn
     go_wp2_with (go_at_call 34; refine (r_value _ v HVS.out (by omega) (by have := UInt8.toNat_lt (s[k]'hlt); omega) _).mono ?_; rintro e w' ⟨rfl, rfl⟩)
     go_ret
     first | exact ⟨rfl, rfl⟩ | exact ⟨by rw [hb]; rfl, rfl⟩
   · have d1 : decide (v < 0) = false := by simpa using hn
     go_wp2_with (go_at_call 34; refine (r_value _ v HVS.out (by omega) (by have := UInt8.toNat_lt (s[k]'hlt); omega) _).mono ?_; rintro e w' ⟨rfl, rfl⟩)
     go_round
     case rel =>
      refine ⟨k + 1, by omega, by go_num, Lib.hid (fun j hj => ?_)⟩
      rcases Nat.lt_or_ge j k with h | h
      · exact HG.out j h
      · obtain rfl : j = k := by omega
        rw [HV.out]; omega
     case measure => simp [intOf]; omega
  · have hb : validL x = true := validL_good (fun j hj => HG.out j (by have := HL.out; omega))
    go_wp2
    go_ret
    first | exact ⟨rfl, rfl⟩ | exact ⟨by rw [hb]; rfl, rfl⟩
def ltrB (n : Int) : Bool := decide (65 ≤ n ∧ n ≤ 90)
def gapL (x : List UInt8) (i : Nat) : Bool := decide (cB x i = 32 ∧ 0 < i ∧ i + 1 < x.length ∧ ltrB (cB x (i - 1)) = true ∧ ltrB (cB x (i + 1)) = true)
def okP (x : List UInt8) (i : Nat) : Bool := ltrB (cB x i) || gapL x i
def okR (x : List UInt8) (i : Nat) : Bool := decide (if cB x i = 32 then 0 < i ∧ i + 1 < x.length ∧ cB x (i - 1) ≠ 32 else ltrB (cB x i) = true)
def nameL (x : List UInt8) : Bool := decide (∀ i, i < x.length → okP x i = true)
theorem nameL_bad {x : List UInt8} {k : Nat} (hk : k < x.length) (h : okP x k = false) : nameL x = false := by
 unfold nameL
 rw [decide_eq_false_iff_not]
 intro h2
 rw [h2 k hk] at h
 cases h
theorem nameL_good {x : List UInt8} (h : ∀ k, k < x.length → okP x k = true) : nameL x = true := by
 unfold nameL; exact decide_eq_true h
theorem nameL_at {x : List UInt8} (h : nameL x = true) : ∀ k, k < x.length → okP x k = true := by
 unfold nameL at h; exact of_decide_eq_true h
theorem okP_let {x : List UInt8} {i : Nat} (h : ltrB (cB x i) = true) : okP x i = true := by unfold okP; rw [h]; rfl
theorem okR_of {x : List UInt8} (h : ∀ k, k < x.length → okP x k = true) (i : Nat) (hi : i < x.length) : okR x i = true := by
 have h0 := h i hi
 unfold okR okP at *
 by_cases e : cB x i = 32
 · have e2 : ltrB (cB x i) = false := by rw [e]; rfl
   rw [e2, Bool.false_or] at h0
   unfold gapL at h0
   have h1 := of_decide_eq_true h0
   simp only [e, if_true]
   refine decide_eq_true ⟨h1.2.1, h1.2.2.1, fun e3 => ?_⟩
   have := h1.2.2.2.1
   rw [e3] at this
   cases this
 · simp only [e, if_false]
   rw [Bool.or_eq_true] at h0
   rcases h0 with h0 | h0
   · simpa using h0
   · unfold gapL at h0
     exact absurd (of_decide_eq_true h0).1 e
theorem okP_of {x : List UInt8} (h : ∀ k, k < x.length → okR x k = true) (i : Nat) (hi : i < x.length) : okP x i = true := by
 have h0 := h i hi
 unfold okR at h0
 have h1 := of_decide_eq_true h0
 by_cases e : cB x i = 32
 ·
  simp only [e, if_true] at h1
  have hL := h (i - 1) (by omega)
  have hR := h (i + 1) (by omega)
  unfold okR at hL hR
  have hL := of_decide_eq_true hL
  have hR := of_decide_eq_true hR
  simp only [h1.2.2, if_false] at hL
  have hne : cB x (i + 1) ≠ 32 := by
   intro e2
   simp only [e2, if_true, Nat.add_sub_cancel] at hR
   exact hR.2.2 e
  simp only [hne, if_false] at hR
  unfold okP gapL
  rw [Bool.or_eq_true]
  exact .inr (decide_eq_true ⟨e, h1.1, h1.2.1, hL, hR⟩)
 · simp only [e, if_false] at h1
   exact okP_let h1
theorem gap_cases (a p q : Int) (i n : Nat) : a ≠ 32 ∨ (a = 32 ∧ i = 0) ∨ (a = 32 ∧ 0 < i ∧ n ≤ i + 1) ∨ (a = 32 ∧ 0 < i ∧ i + 1 < n ∧ p < 65) ∨ (a = 32 ∧ 0 < i ∧ i + 1 < n ∧ 90 < p) ∨
 (a = 32 ∧ 0 < i ∧ i + 1 < n ∧ 65 ≤ p ∧ p ≤ 90 ∧ q < 65) ∨ (a = 32 ∧ 0 < i ∧ i + 1 < n ∧ 65 ≤ p ∧ p ≤ 90 ∧ 90 < q) ∨ (a = 32 ∧ 0 < i ∧ i + 1 < n ∧ 65 ≤ p ∧ p ≤ 90 ∧ 65 ≤ q ∧ q ≤ 90) := by omega
theorem gap_no {x : List UInt8} {i : Nat} (h : ¬ (cB x i = 32 ∧ 0 < i ∧ i + 1 < x.length ∧ ltrB (cB x (i - 1)) = true ∧ ltrB (cB x (i + 1)) = true)) : gapL x i = false := decide_eq_false h
theorem ltr_no {n : Int} (h : n < 65 ∨ 90 < n) : ltrB n = false := by unfold ltrB; exact decide_eq_false (by omega)
theorem ltr_yes {n : Int} (h1 : 65 ≤ n) (h2 : n ≤ 90) : ltrB n = true := by unfold ltrB; exact decide_eq_true ⟨h1, h2⟩
theorem p_letter (n : Int) (b : Bool) (hb : ltrB n = b) (w : World) :
 Calls Tryz.prog 66 #[.int .u8 n] w fun e w' => e = .returned (.bool b) ∧ w' = w := by
 have h : n < 65 ∨ 90 < n ∨ (65 ≤ n ∧ n ≤ 90) := by omega
 rcases h with h | h | h
 · rw [ltr_no (.inl h)] at hb
   subst hb
   go_enter Tryz.func66, Tryz.ntmps66
   go_wp2
   go_ret
   exact ⟨rfl, rfl⟩
 · rw [ltr_no (.inr h)] at hb
   subst hb
   have d : decide (n ≤ 90) = false := by simp; omega
   go_enter Tryz.func66, Tryz.ntmps66
   go_wp2
   go_ret
   exact ⟨rfl, rfl⟩
 · rw [ltr_yes h.1 h.2] at hb
   subst hb
   obtain ⟨h1, h2⟩ := h
   go_enter Tryz.func66, Tryz.ntmps66
   go_wp2
   go_ret
   exact ⟨rfl, rfl⟩
set_option maxHeartbeats 800000 in
theorem p_gap (s : ByteArray) (x : List UInt8) (hx : s = S x) (i : Nat) (hi : i < s.size) (b : Bool) (hb : gapL x i = b) (w : World) (hm : s.size ≤ 140737488355328) :
 Calls Tryz.prog 136 #[.string s, .int .i64 i] w fun e w' => e = .returned (.bool b) ∧ w' = w := by
 have hl : s.size = x.length := by rw [hx, S_size]
 have h0 := s_at hx i hi
 rcases gap_cases (cB x i) (cB x (i - 1)) (cB x (i + 1)) i x.length with h | h | h | h | h | h | h | h
 · rw [gap_no (fun g => h g.1)] at hb
   subst hb
   rw [← h0] at h
   clear h0 hl hx
   have d0 : ((s[i].toNat : Int) == 32) = false := by simpa using h
   go_enter Tryz.func136, Tryz.ntmps136
   go_wp2
   go_ret
   exact ⟨rfl, rfl⟩
 · obtain ⟨h, rfl⟩ := h
   rw [gap_no (fun g => absurd g.2.1 (by omega))] at hb
   subst hb
   rw [← h0] at h
   clear h0 hl hx
   go_enter Tryz.func136, Tryz.ntmps136
   go_wp2
   go_ret
   exact ⟨rfl, rfl⟩
 · obtain ⟨h, hp, hn⟩ := h
   rw [gap_no (fun g => absurd g.2.2.1 (by omega))] at hb
   subst hb
   rw [← h0] at h
   rw [← hl] at hn
   clear h0 hl hx
   go_enter Tryz.func136, Tryz.ntmps136
   go_wp2
   go_ret
   exact ⟨rfl, rfl⟩
 all_goals
  obtain ⟨j, rfl⟩ : ∃ j, i = j + 1 := ⟨i - 1, by omega⟩
  rw [Nat.add_sub_cancel] at h
  have hxl : j + 1 + 1 < x.length := by omega
  have hlt : j + 1 + 1 < s.size := by omega
  have hja : j < s.size := by omega
  have h1 := s_at hx j hja
  have h2 := s_at hx (j + 1 + 1) hlt
  have hv : gapL x (j + 1) = decide (cB x (j + 1) = 32 ∧ j + 1 + 1 < x.length ∧ ltrB (cB x j) = true ∧ ltrB (cB x (j + 1 + 1)) = true) := by
   unfold gapL; rw [Nat.add_sub_cancel]; congr 1; apply propext; constructor
   · rintro ⟨a, _, c⟩; exact ⟨a, c⟩
   · rintro ⟨a, c⟩; exact ⟨a, by omega, c⟩
  rw [hv] at hb
  clear hv
  simp only [← h0, ← h1, ← h2, hxl, true_and] at h hb
  have HB := Lib.hid hb
  clear h0 h1 h2 hl hx hb hxl
 · obtain ⟨a1, _, a4⟩ := h
   have hf : b = false := by rw [← HB.out]; exact decide_eq_false (fun g => by rw [ltr_no (.inl a4)] at g; exact absurd g.2.1 (by decide))
   subst hf
   clear HB
   go_enter Tryz.func136, Tryz.ntmps136
   go_wp2
   go_ret
   exact ⟨rfl, rfl⟩
 · obtain ⟨a1, _, a4⟩ := h
   have hf : b = false := by rw [← HB.out]; exact decide_eq_false (fun g => by rw [ltr_no (.inr a4)] at g; exact absurd g.2.1 (by decide))
   subst hf
   clear HB
   go_enter Tryz.func136, Tryz.ntmps136
   go_wp2
   go_ret
   exact ⟨rfl, rfl⟩
 · obtain ⟨a1, _, a4, a5, a6⟩ := h
   have hf : b = false := by rw [← HB.out]; exact decide_eq_false (fun g => by rw [ltr_no (.inl a6)] at g; exact absurd g.2.2 (by decide))
   subst hf
   clear HB
   go_enter Tryz.func136, Tryz.ntmps136
   go_wp2
   go_ret
   exact ⟨rfl, rfl⟩
 · obtain ⟨a1, _, a4, a5, a6⟩ := h
   have hf : b = false := by rw [← HB.out]; exact decide_eq_false (fun g => by rw [ltr_no (.inr a6)] at g; exact absurd g.2.2 (by decide))
   subst hf
   clear HB
   have d9 : decide ((s[j + 1 + 1].toNat : Int) ≤ 90) = false := by simp; omega
   go_enter Tryz.func136, Tryz.ntmps136
   go_wp2
   go_ret
   exact ⟨rfl, rfl⟩
 · obtain ⟨a1, _, a4, a5, a6, a7⟩ := h
   have hf : b = true := by rw [← HB.out]; exact decide_eq_true ⟨a1, ltr_yes a4 a5, ltr_yes a6 a7⟩
   subst hf
   clear HB
   go_enter Tryz.func136, Tryz.ntmps136
   go_wp2
   go_ret
   exact ⟨rfl, rfl⟩
set_option maxHeartbeats 800000 in
theorem p_name (s : ByteArray) (x : List UInt8) (hx : s = S x) (w : World) (hm : s.size ≤ 140737488355328) :
 Calls Tryz.prog 103 #[.string s] w fun e w' => e = .returned (.bool (nameL x)) ∧ w' = w := by
 have hl : s.size = x.length := by rw [hx, S_size]
 have HX := Lib.hid hx
 have HL := Lib.hid hl
 obtain ⟨N, hN⟩ : ∃ N, nameL x = N := ⟨_, rfl⟩
 rw [hN]
 have HN := Lib.hid hN
 clear hx hl hN
 go_enter Tryz.func103, Tryz.ntmps103
 go_wp2
 go_loop [6] (fun i => ∃ k : Nat, k ≤ s.size ∧ i = .int .i64 k ∧ Hid (∀ j, j < k → okP x j = true)) (fun i => s.size - (intOf i).toNat)
 case atStart => exact ⟨0, Nat.zero_le _, rfl, Lib.hid (fun j h => by omega)⟩
 case round =>
  obtain ⟨k, hk, rfl, HG⟩ := hrel
  by_cases hlt : k < s.size
  ·
   have hc := s_at HX.out k hlt
   obtain ⟨b, hb⟩ : ∃ b, ltrB (cB x k) = b := ⟨_, rfl⟩
   obtain ⟨g, hg⟩ : ∃ g, gapL x k = g := ⟨_, rfl⟩
   have hbs : ltrB ((s[k]'hlt).toNat : Int) = b := by rw [hc]; exact hb
   have HB := Lib.hid hb
   have HBS := Lib.hid hbs
   have HGP := Lib.hid hg
   clear hb hbs hg hc
   rcases b with _ | _
   ·
    rcases g with _ | _
    · have hf : N = false := by rw [← HN.out]; exact nameL_bad (k := k) (by have := HL.out; omega) (by unfold okP; rw [HB.out, HGP.out]; rfl)
      subst hf
      go_wp2_with (first
       | (go_at_call 66; refine (p_letter _ false HBS.out _).mono ?_; rintro e w' ⟨rfl, rfl⟩)
       | (go_at_call 136; refine (p_gap _ x HX.out k hlt false HGP.out _ hm).mono ?_; rintro e w' ⟨rfl, rfl⟩))
      go_ret
      exact ⟨rfl, rfl⟩
    · go_wp2_with (first
       | (go_at_call 66; refine (p_letter _ false HBS.out _).mono ?_; rintro e w' ⟨rfl, rfl⟩)
       | (go_at_call 136; refine (p_gap _ x HX.out k hlt true HGP.out _ hm).mono ?_; rintro e w' ⟨rfl, rfl⟩))
      go_round
      case rel =>
       refine ⟨k + 1, by omega, by go_num, Lib.hid (fun j hj => ?_)⟩
       rcases Nat.lt_or_ge j k with h | h
       · exact HG.out j h
       · obtain rfl : j = k := by omega
         unfold okP; rw [HB.out, HGP.out]; rfl
      case measure => simp [intOf]; omega
   · go_wp2_with (go_at_call 66; refine (p_letter _ true HBS.out _).mono ?_; rintro e w' ⟨rfl, rfl⟩)
     go_round
     case rel =>
      refine ⟨k + 1, by omega, by go_num, Lib.hid (fun j hj => ?_)⟩
      rcases Nat.lt_or_ge j k with h | h
      · exact HG.out j h
      · obtain rfl : j = k := by omega
        exact okP_let HB.out
     case measure => simp [intOf]; omega
  · have hf : N = true := by rw [← HN.out]; exact nameL_good (fun j hj => HG.out j (by have := HL.out; omega))
    subst hf
    go_wp2
    go_ret
    exact ⟨rfl, rfl⟩
theorem name_cases (a q : Int) (i n : Nat) (hi : i < n) : (a = 32 ∧ i = 0) ∨ (a = 32 ∧ 0 < i ∧ i + 1 = n) ∨ (a = 32 ∧ 0 < i ∧ i + 1 < n ∧ q = 32) ∨ (a = 32 ∧ 0 < i ∧ i + 1 < n ∧ q ≠ 32) ∨
 (a ≠ 32 ∧ a < 65) ∨ (a ≠ 32 ∧ 90 < a) ∨ (a ≠ 32 ∧ 65 ≤ a ∧ a ≤ 90) := by omega
theorem okR_no {x : List UInt8} {i : Nat} (h : ¬ (if cB x i = 32 then 0 < i ∧ i + 1 < x.length ∧ cB x (i - 1) ≠ 32 else ltrB (cB x i) = true)) : okR x i = false := decide_eq_false h
theorem nameR_bad {x : List UInt8} {k : Nat} (hk : k < x.length) (h : okR x k = false) : nameL x = false := by
 rcases hb : nameL x with _ | _
 · rfl
 · have := okR_of (nameL_at hb) k hk
   rw [h] at this
   cases this
theorem nameR_good {x : List UInt8} (h : ∀ k, k < x.length → okR x k = true) : nameL x = true := nameL_good (okP_of h)
set_option maxHeartbeats 1600000 in
theorem r_name (s : ByteArray) (x : List UInt8) (hx : s = S x) (w : World) (hm : s.size ≤ 140737488355328) :
 Calls Tryz.prog 86 #[.string s] w fun e w' => e = .returned (.bool (nameL x)) ∧ w' = w := by
 have hl : s.size = x.length := by rw [hx, S_size]
 have HX := Lib.hid hx
 have HL := Lib.hid hl
 obtain ⟨N, hN⟩ : ∃ N, nameL x = N := ⟨_, rfl⟩
 rw [hN]
 have HN := Lib.hid hN
 clear hx hl hN
 go_enter Tryz.func86, Tryz.ntmps86
 go_wp2
 go_loop [3] (fun i => ∃ k : Nat, k ≤ s.size ∧ i = .int .i64 k ∧ Hid (∀ j, j < k → okR x j = true)) (fun i => s.size - (intOf i).toNat)
 case atStart => exact ⟨0, Nat.zero_le _, rfl, Lib.hid (fun j h => by omega)⟩
 case round =>
  obtain ⟨k, hk, rfl, HG⟩ := hrel
  by_cases hlt : k < s.size
  ·
   have hc := s_at HX.out k hlt
   have hgood : okR x k = true → Hid (∀ j, j < k + 1 → okR x j = true) := fun h => Lib.hid (fun j hj => by
    rcases Nat.lt_or_ge j k with h2 | h2
    · exact HG.out j h2
    · obtain rfl : j = k := by omega
      exact h)
   have hbad : okR x k = false → N = false := fun h => by rw [← HN.out]; exact nameR_bad (k := k) (by have := HL.out; omega) h
   rcases name_cases (cB x k) (cB x (k - 1)) k s.size hlt with h | h | h | h | h | h | h
   · obtain ⟨h, rfl⟩ := h
     have hf := hbad (okR_no (by simp [h]))
     subst hf
     rw [← hc] at h
     clear hc hgood hbad
     go_wp2
     go_ret
     exact ⟨rfl, rfl⟩
   · obtain ⟨h, h0, h1⟩ := h
     have hf := hbad (okR_no (by simp only [h, if_true]; intro g; have := HL.out; omega))
     subst hf
     rw [← hc] at h
     clear hc hgood hbad
     have d0 : ((k : Int) == 0) = false := by simp; omega
     have d1 : ((k : Int) == (s.size : Int) - 1) = true := by simp; omega
     go_wp2
     go_ret
     exact ⟨rfl, rfl⟩
   ·
    obtain ⟨h, h0, h1, h2⟩ := h
    have hf := hbad (okR_no (by simp only [h, if_true]; intro g; exact g.2.2 h2))
    subst hf
    obtain ⟨j, rfl⟩ : ∃ j, k = j + 1 := ⟨k - 1, by omega⟩
    rw [Nat.add_sub_cancel] at h2
    have hja : j < s.size := by omega
    have hcj := s_at HX.out j hja
    rw [← hc] at h
    rw [← hcj] at h2
    clear hc hcj hgood hbad
    have d0 : (((j : Int) + 1) == 0) = false := by simp; omega
    have d1 : (((j : Int) + 1) == (s.size : Int) - 1) = false := by simp; omega
    go_wp2
    go_ret
    exact ⟨rfl, rfl⟩
   ·
    obtain ⟨h, h0, h1, h2⟩ := h
    have HQ := hgood (by unfold okR; simp only [h, if_true]; exact decide_eq_true ⟨h0, by have := HL.out; omega, h2⟩)
    obtain ⟨j, rfl⟩ : ∃ j, k = j + 1 := ⟨k - 1, by omega⟩
    rw [Nat.add_sub_cancel] at h2
    have hja : j < s.size := by omega
    have hcj := s_at HX.out j hja
    rw [← hc] at h
    rw [← hcj] at h2
    clear hc hcj hgood hbad
    have d0 : (((j : Int) + 1) == 0) = false := by simp; omega
    have d1 : (((j : Int) + 1) == (s.size : Int) - 1) = false := by simp; omega
    have d2 : ((s[j].toNat : Int) == 32) = false := by simpa using h2
    go_wp2
    go_round
    case rel => exact ⟨j + 1 + 1, by omega, by go_num, HQ⟩
    case measure => simp [intOf]; omega
   · obtain ⟨h, h0⟩ := h
     have hf := hbad (okR_no (by simp only [h, if_false]; rw [ltr_no (.inl h0)]; decide))
     subst hf
     rw [← hc] at h h0
     clear hc hgood hbad
     have d2 : ((s[k].toNat : Int) == 32) = false := by simpa using h
     have d3 : ((s[k].toNat : Int) != 32) = true := by simpa using h
     have d4 : decide ((s[k].toNat : Int) < 65) = true := by simpa using h0
     go_wp2
     go_ret
     exact ⟨rfl, rfl⟩
   · obtain ⟨h, h0⟩ := h
     have hf := hbad (okR_no (by simp only [h, if_false]; rw [ltr_no (.inr h0)]; decide))
     subst hf
     rw [← hc] at h h0
     clear hc hgood hbad
     have d2 : ((s[k].toNat : Int) == 32) = false := by simpa using h
     have d3 : ((s[k].toNat : Int) != 32) = true := by simpa using h
     have d4 : decide ((s[k].toNat : Int) < 65) = false := by simp; omega
     have d5 : decide ((90 : Int) < (s[k].toNat : Int)) = true := by simpa using h0
     go_wp2
     go_ret
     exact ⟨rfl, rfl⟩
   · obtain ⟨h, h0, h1⟩ := h
     have HQ := hgood (by unfold okR; simp only [h, if_false]; rw [ltr_yes h0 h1]; rfl)
     rw [← hc] at h h0 h1
     clear hc hgood hbad
     have d2 : ((s[k].toNat : Int) == 32) = false := by simpa using h
     have d3 : ((s[k].toNat : Int) != 32) = true := by simpa using h
     have d4 : decide ((s[k].toNat : Int) < 65) = false := by simp; omega
     have d5 : decide ((90 : Int) < (s[k].toNat : Int)) = false := by simp; omega
     go_wp2
     go_round
     case rel => exact ⟨k + 1, by omega, by go_num, HQ⟩
     case measure => simp [intOf]; omega
  · have hf : N = true := by rw [← HN.out]; exact nameR_good (fun j hj => HG.out j (by have := HL.out; omega))
    subst hf
    go_wp2
    go_ret
    exact ⟨rfl, rfl⟩
def exB (a b c : UInt8) : UInt8 := if c = a then b else c
def exL (a b : UInt8) (x : List UInt8) : List UInt8 := x.map (exB a b)
theorem exL_length (a b : UInt8) (x : List UInt8) : (exL a b x).length = x.length := by simp [exL]
def exTo (a b : UInt8) (x : List UInt8) (k : Nat) : List UInt8 := exL a b (x.take k) ++ x.drop k
theorem exTo_length (a b : UInt8) (x : List UInt8) (k : Nat) (hk : k ≤ x.length) : (exTo a b x k).length = x.length := by simp [exTo, exL]; omega
theorem exTo_zero (a b : UInt8) (x : List UInt8) : exTo a b x 0 = x := by simp [exTo, exL]
theorem exTo_all (a b : UInt8) (x : List UInt8) (k : Nat) (h : x.length ≤ k) : exTo a b x k = exL a b x := by simp [exTo, List.take_of_length_le h, List.drop_eq_nil_of_le h]
theorem exTo_split (a b : UInt8) (x : List UInt8) (k : Nat) (hk : k < x.length) : exTo a b x (k + 1) = exL a b (x.take k) ++ (exB a b x[k] :: x.drop (k + 1)) ∧ exTo a b x k = exL a b (x.take k) ++ (x[k] :: x.drop (k + 1)) := by
 unfold exTo
 refine ⟨?_, by rw [← List.drop_eq_getElem_cons hk]⟩
 have : x.take (k + 1) = x.take k ++ [x[k]] := List.take_succ_eq_append_getElem hk
 rw [this]
 simp only [exL, List.map_append, List.map_cons, List.map_nil, List.append_assoc, List.singleton_append]
theorem exTo_get (a b : UInt8) (x : List UInt8) (k : Nat) (hk : k < x.length) : (exTo a b x k)[k]? = some x[k] := by
 rw [(exTo_split a b x k hk).2, List.getElem?_append_right (by simp [exL]; omega)]
 have : (exL a b (List.take k x)).length = k := by simp [exL]; omega
 rw [this, Nat.sub_self]
 rfl
theorem exTo_keep (a b : UInt8) (x : List UInt8) (k : Nat) (hk : k < x.length) (h : x[k] ≠ a) : exTo a b x (k + 1) = exTo a b x k := by
 rw [(exTo_split a b x k hk).1, (exTo_split a b x k hk).2]
 unfold exB
 rw [if_neg h]
theorem exTo_set (a b : UInt8) (x : List UInt8) (k : Nat) (hk : k < x.length) (h : x[k] = a) : exTo a b x (k + 1) = (exTo a b x k).set k b := by
 rw [(exTo_split a b x k hk).1, (exTo_split a b x k hk).2, List.set_append_right _ _ (by simp [exL]; omega)]
 have : k - (exL a b (List.take k x)).length = 0 := by simp [exL]; omega
 rw [this]
 unfold exB
 rw [if_pos h]
 rfl
def ExR (w : World) (g : Nat) (l : List UInt8) (z : Nat) : Prop := ∃ m, l.length ≤ m ∧ w.heap[g]? = some (.cells (Us l ++ List.replicate z (Value.int .u8 0)).toArray 5 (m, m + 1))
theorem ExR.cell {w : World} {g : Nat} {l : List UInt8} {z : Nat} (h : ExR w g l z) {k : Nat} {c : UInt8} (hk : l[k]? = some c) : w.cell? ⟨g, k, none⟩ = some (.int .u8 (c.toNat : Int)) := by
 obtain ⟨m, hm, h⟩ := h
 have hl : k < l.length := (List.getElem?_eq_some_iff.1 hk).1
 rw [cell_of_row w g k _ _ _ h, List.getElem?_toArray, List.getElem?_append_left (by rw [Us_length]; exact hl), Us_get hl]
 rw [(List.getElem?_eq_some_iff.1 hk).2]
theorem ExR.free {w : World} {g : Nat} {l : List UInt8} {z : Nat} (h : ExR w g l z) {k : Nat} (hk : k < l.length) : w.frozen? ⟨g, k, none⟩ = false := by
 obtain ⟨m, hm, h⟩ := h
 unfold World.frozen?
 rw [h]
 simp
 omega
theorem ExR.set {w : World} {g : Nat} {l : List UInt8} {z : Nat} (h : ExR w g l z) {k : Nat} (hk : k < l.length) (c : UInt8) : ExR (w.setCell ⟨g, k, none⟩ (.int .u8 (c.toNat : Int))) g (l.set k c) z := by
 obtain ⟨m, hm, h⟩ := h
 refine ⟨m, by rw [List.length_set]; exact hm, ?_⟩
 rw [Go.Joins.block_setCell h]
 congr 2
 rw [← Us_set]
 simp only [List.setIfInBounds_toArray]
 rw [List.set_append_left _ _ (by rw [Us_length]; exact hk)]
 rfl
theorem ExR.sees {w : World} {g : Nat} {l : List UInt8} {z : Nat} (h : ExR w g l z) : Sees w (g + 1) (some ⟨g, 0, none⟩) (Us l) :=
 .inr ⟨g, 0, rfl, by omega, fun j hj => by
  rw [Us_length] at hj
  rw [Nat.zero_add, h.cell (c := l[j]) (by simp [hj]), Us_get hj]⟩
theorem ex_conv (s : ByteArray) (x : List UInt8) (hx : s = S x) (w : World) : ∃ W cap z, (convert 9 59 (.string s)).run Tryz.prog w = .ok (.slice (some ⟨w.heap.size, 0, none⟩) s.size cap) W ∧ ExR W w.heap.size x z ∧ Below w.heap.size w W ∧ s.size ≤ cap := by
 refine ⟨_, _, grownCap w s.size 0 5 - s.size, run_bytes_of_string w 9 59 5 s Tryz.underlying9 Tryz.underlying59 Tryz.underlying5, ?_, ?_, by have := grownCap_ge w s.size 0 5; omega⟩
 · subst hx
   have e : bytesRow (S x) (grownCap w (S x).size 0 5) = (Us x ++ List.replicate (grownCap w (S x).size 0 5 - (S x).size) (Value.int .u8 0)).toArray := by
    unfold bytesRow
    apply Array.toList_inj.1
    simp only [S, Array.toList_append, Array.toList_map, Array.toList_replicate]; rfl
   rw [e]
   exact ⟨_, by simp [Us], heap_alloc_new w.drew _⟩
 · exact ((below_drewN w.heap.size w 1).alloc (Nat.le_refl _) _)
set_option maxHeartbeats 800000 in
theorem p_exchange (s : ByteArray) (x : List UInt8) (hx : s = S x) (a b : UInt8) (w : World) (hm : s.size ≤ 140737488355328) :
 Calls Tryz.prog 134 #[.string s, .int .u8 (a.toNat : Int), .int .u8 (b.toNat : Int)] w fun e w' => e = .returned (.string (S (exL a b x))) ∧ Below w.heap.size w w' := by
 have hl : s.size = x.length := by rw [hx, S_size]
 obtain ⟨W, cap, z, hcv, hR, hW, hcap⟩ := ex_conv s x hx w
 have HR := Lib.hid hR
 have HB := Lib.hid hW
 have HL := Lib.hid hl
 obtain ⟨g, hg⟩ : ∃ g, g = w.heap.size := ⟨_, rfl⟩
 rw [← hg] at hcv HR HB ⊢
 have HG := Lib.hid hg
 clear hR hW hl hg hx
 go_enter Tryz.func134, Tryz.ntmps134
 go_wp2
 go_loopw [13] (fun i wr => ∃ k : Nat, k ≤ s.size ∧ i = .int .i64 k ∧ Hid (ExR wr g (exTo a b x k) z) ∧ Hid (Below g w wr)) (fun i _ => s.size - (intOf i).toNat)
 case atStart => exact ⟨0, Nat.zero_le _, rfl, Lib.hid (by rw [exTo_zero]; exact HR.out), HB⟩
 case round =>
  obtain ⟨k, hk, rfl, HE, HW⟩ := hrel
  by_cases hlt : k < s.size
  ·
   have hkx : k < x.length := by have := HL.out; omega
   have c0 := HE.out.cell (exTo_get a b x k hkx)
   have f0 := HE.out.free (k := k) (by rw [exTo_length _ _ _ _ (by omega)]; exact hkx)
   clear hcv
   by_cases h : x[k] = a
   · have hi : (x[k].toNat : Int) = ((a : UInt8).toNat : Int) := by rw [h]
     have h2 : Hid (ExR (wr.setCell ⟨g, k, none⟩ (.int .u8 ((b : UInt8).toNat : Int))) g (exTo a b x (k + 1)) z) := Lib.hid (by
      rw [exTo_set _ _ _ _ hkx h]
      exact HE.out.set (by rw [exTo_length _ _ _ _ (by omega)]; exact hkx) _)
     have h3 : Hid (Below g w (wr.setCell ⟨g, k, none⟩ (.int .u8 ((b : UInt8).toNat : Int)))) := Lib.hid (HW.out.setCell (p := ⟨g, k, none⟩) (Nat.le_refl _) _)
     rw [hi] at c0
     clear hi h hkx
     go_wp2
     go_roundw
     case rel => exact ⟨k + 1, by omega, by go_num, h2, h3⟩
     case measure => simp [intOf]; omega
   · have d0 : ((x[k].toNat : Int) == ((a : UInt8).toNat : Int)) = false := by
      simp only [beq_eq_false_iff_ne]
      intro e
      exact h (UInt8.toNat_inj.1 (Int.ofNat_inj.1 e))
     have h2 : Hid (ExR wr g (exTo a b x (k + 1)) z) := Lib.hid (by rw [exTo_keep _ _ _ _ hkx h]; exact HE.out)
     clear h
     go_wp2
     go_roundw
     case rel => exact ⟨k + 1, by omega, by go_num, h2, HW⟩
     case measure => simp [intOf]; omega
  · have hE : ExR wr g (exL a b x) z := by have := HE.out; rwa [exTo_all _ _ _ _ (by have := HL.out; omega)] at this
    have hc := run_conv wr _ _ _ hE.sees s.size cap (by rw [exL_length]; exact HL.out)
    clear hE hcv
    go_wp2
    go_ret
    exact ⟨rfl, HW.out⟩
set_option maxHeartbeats 800000 in
theorem r_fill (s : ByteArray) (x : List UInt8) (hx : s = S x) (w : World) (hm : s.size ≤ 140737488355328) :
 Calls Tryz.prog 119 #[.string s] w fun e w' => e = .returned (.string (S (exL 32 60 x))) ∧ Below w.heap.size w w' := by
 have hl : s.size = x.length := by rw [hx, S_size]
 obtain ⟨W, cap, z, hcv, hR, hW, hcap⟩ := ex_conv s x hx w
 have HR := Lib.hid hR
 have HB := Lib.hid hW
 have HL := Lib.hid hl
 obtain ⟨g, hg⟩ : ∃ g, g = w.heap.size := ⟨_, rfl⟩
 rw [← hg] at hcv HR HB ⊢
 have HG := Lib.hid hg
 clear hR hW hl hg hx
 go_enter Tryz.func119, Tryz.ntmps119
 go_wp2
 go_loopw [4] (fun i wr => ∃ k : Nat, k ≤ s.size ∧ i = .int .i64 k ∧ Hid (ExR wr g (exTo 32 60 x k) z) ∧ Hid (Below g w wr)) (fun i _ => s.size - (intOf i).toNat)
 case atStart => exact ⟨0, Nat.zero_le _, rfl, Lib.hid (by rw [exTo_zero]; exact HR.out), HB⟩
 case round =>
  obtain ⟨k, hk, rfl, HE, HW⟩ := hrel
  by_cases hlt : k < s.size
  ·
   have hkx : k < x.length := by have := HL.out; omega
   have c0 := HE.out.cell (exTo_get 32 60 x k hkx)
   have f0 := HE.out.free (k := k) (by rw [exTo_length _ _ _ _ (by omega)]; exact hkx)
   clear hcv
   by_cases h : x[k] = 32
   · have hi : (x[k].toNat : Int) = ((32 : UInt8).toNat : Int) := by rw [h]
     have h2 : Hid (ExR (wr.setCell ⟨g, k, none⟩ (.int .u8 ((60 : UInt8).toNat : Int))) g (exTo 32 60 x (k + 1)) z) := Lib.hid (by
      rw [exTo_set _ _ _ _ hkx h]
      exact HE.out.set (by rw [exTo_length _ _ _ _ (by omega)]; exact hkx) _)
     have h3 : Hid (Below g w (wr.setCell ⟨g, k, none⟩ (.int .u8 ((60 : UInt8).toNat : Int)))) := Lib.hid (HW.out.setCell (p := ⟨g, k, none⟩) (Nat.le_refl _) _)
     rw [hi] at c0
     clear hi h hkx
     go_wp2
     go_roundw
     case rel => exact ⟨k + 1, by omega, by go_num, h2, h3⟩
     case measure => simp [intOf]; omega
   · have d0 : ((x[k].toNat : Int) == 32) = false := by
      simp only [beq_eq_false_iff_ne]
      intro e
      exact h (UInt8.toNat_inj.1 (Int.ofNat_inj.1 e))
     have h2 : Hid (ExR wr g (exTo 32 60 x (k + 1)) z) := Lib.hid (by rw [exTo_keep _ _ _ _ hkx h]; exact HE.out)
     clear h
     go_wp2
     go_roundw
     case rel => exact ⟨k + 1, by omega, by go_num, h2, HW⟩
     case measure => simp [intOf]; omega
  · have hE : ExR wr g (exL 32 60 x) z := by have := HE.out; rwa [exTo_all _ _ _ _ (by have := HL.out; omega)] at this
    have hc := run_conv wr _ _ _ hE.sees s.size cap (by rw [exL_length]; exact HL.out)
    clear hE hcv
    go_wp2
    go_ret
    exact ⟨rfl, HW.out⟩
theorem info_u8b : (Tryz.prog.info? 5).map (fun i => (i.zero, i.size, i.bytes)) = some (some (.int .u8 0), 1, 1) := by kernel_rfl
def Out (w : World) (B g k cap : Nat) (l : List UInt8) : Prop := w.ownsRow B 5 1 (.slice (some ⟨g, 0, none⟩) k cap) k (Us l)
theorem one_cell1 (z : Int) : ∀ u ∈ [Value.int .u8 z], u.oneCell' = true := by
 intro u hu
 simp only [List.mem_singleton] at hu
 subst hu
 rfl
theorem grown_trans {a b c : World} {g : Nat} (h : a.grownBy b (some g)) (k : b.grownBy c (some g)) : a.grownBy c (some g) := by
 obtain ⟨h1, h2, h3, h4, h5⟩ := h
 obtain ⟨k1, k2, k3, k4, k5⟩ := k
 exact ⟨k1.trans h1, k2.trans h2, k3.trans h3, Nat.le_trans h4 k4, fun i hi hn => (k5 i (Nat.lt_of_lt_of_le hi h4) hn).trans (h5 i hi hn)⟩
theorem grown_below {a b : World} {row : Option Nat} (h : Below a.heap.size a b) : a.grownBy b row :=
 ⟨h.os, h.tape, h.output, h.size, fun i hi _ => h.block i hi⟩
theorem grown_alloc (a : World) (o : Obj) (row : Option Nat) : a.grownBy (a.alloc o) row := grown_below ((Below.refl _ _).alloc (Nat.le_refl _) o)
theorem block_set {w : World} {b i : Nat} {cs : Array Value} {t : TypeId} (h : w.heap[b]? = some (.cells cs t (0, 0))) (u : Value) : (w.setCell ⟨b, i, none⟩ u).heap[b]? = some (.cells (cs.setIfInBounds i u) t (0, 0)) := by
 have hlt := lt_of_block h
 have h' : w.heap[b] = .cells cs t (0, 0) := by simpa [Array.getElem?_eq_getElem hlt] using h
 show (w.heap.modify b _)[b]? = _
 rw [Array.getElem?_eq_getElem (by simpa using hlt), Array.getElem_modify_self, h']
 rfl
theorem block_far {w : World} {b : Nat} {a : Addr} {o : Obj} (h : w.heap[b]? = some o) (hb : b ≠ a.block) (u : Value) : (w.setCell a u).heap[b]? = some o := by
 rw [Below.heap_setCell w a u b hb]; exact h
theorem block_alloc {w : World} {b : Nat} {o : Obj} (h : w.heap[b]? = some o) (o2 : Obj) : (w.alloc o2).heap[b]? = some o := by
 rw [Below.heap_alloc w o2 b (lt_of_block h)]; exact h
theorem block_next (w : World) (o o2 : Obj) : ((w.alloc o).alloc o2).heap[w.heap.size + 1]? = some o2 := by
 have := heap_alloc_new (w.alloc o) o2
 simpa using this
theorem ret_cell_tmp {P : Program} {fn : Func} {p u : Tmp} {ty : TypeId} (h : fn.results = #[.cell p ty, .tmp u]) (tmps : Array Value) (w : World) (g : Nat) (t : TypeId) (cs : Array Value) (fr : Nat × Nat) (d : TypeDesc)
 (hp : tmps.getD p undef = .pointer (some ⟨g, 0, none⟩)) (hg : w.heap[g]? = some (.cells cs t fr))
 (hu : P.underlying ty = some d) (hd : (match d with | .struct _ | .array _ _ => true | _ => false) = true) (hi : (P.info? ty).map (·.size) = some cs.size) :
 (results fn tmps).run P w = .ok (.tuple #[.agg cs, tmps.getD u undef]) w := by
 have hp' : tmps[p]?.getD undef = .pointer (some ⟨g, 0, none⟩) := by simpa using hp
 rw [results_cell_tmp h]
 simp [hp', asAddr, run_loadVar_row w g t ty cs fr d hg hu hd hi, Result.andThen]
inductive F where
 | nil
 | cons (t : Int) (v : List UInt8) (k r : F)
def F.len : F → Nat
 | .nil => 0
 | .cons _ _ _ r => r.len + 1
def F.size : F → Nat
 | .nil => 0
 | .cons _ _ k r => k.size + r.size + 1
def SeesP (w : World) (p : Nat → Prop) (A : Option Addr) (cs : List Value) : Prop :=
 cs = [] ∨ ∃ b off, A = some ⟨b, off, none⟩ ∧ p b ∧ ∀ j, j < cs.length → w.cell? ⟨b, off + j, none⟩ = cs[j]?
def HoldsP (w : World) (p : Nat → Prop) : F → List Value → Prop
 | .nil, cs => cs = []
 | .cons t v k r, cs => ∃ Av cv Ak ck ks cs', cs = .int .i64 t :: .slice Av v.length cv :: .slice Ak k.len ck :: cs' ∧ (Av = none → cv = 0) ∧ SeesP w p Av (Us v) ∧ SeesP w p Ak ks ∧ HoldsP w p k ks ∧ HoldsP w p r cs'
def SeesF (w : World) (p : Nat → Prop) (A : Option Addr) (f : F) : Prop := ∃ cs, SeesP w p A cs ∧ HoldsP w p f cs
section
variable {w w' : World} {p p' : Nat → Prop} {A : Option Addr} {cs : List Value}
theorem SeesP.iff_sees {B : Nat} : SeesP w (· < B) A cs ↔ Sees w B A cs := Iff.rfl
theorem SeesP.keep (h : SeesP w p A cs) (hk : ∀ q : Addr, p q.block → w'.cell? q = w.cell? q) : SeesP w' p A cs := by
 rcases h with h | ⟨b, off, e, hb, hc⟩
 · exact .inl h
 · exact .inr ⟨b, off, e, hb, fun j hj => (hk _ hb).trans (hc j hj)⟩
theorem SeesP.imp (h : SeesP w p A cs) (hp : ∀ b, p b → p' b) : SeesP w p' A cs := by
 rcases h with h | ⟨b, off, e, hb, hc⟩
 · exact .inl h
 · exact .inr ⟨b, off, e, hp b hb, hc⟩
theorem HoldsP.keep (hk : ∀ q : Addr, p q.block → w'.cell? q = w.cell? q) : ∀ {f : F} {cs : List Value}, HoldsP w p f cs → HoldsP w' p f cs
 | .nil, _, h => h
 | .cons _ _ _ _, _, ⟨Av, cv, Ak, ck, ks, cs', e, h0, h1, h2, h3, h4⟩ => ⟨Av, cv, Ak, ck, ks, cs', e, h0, h1.keep hk, h2.keep hk, HoldsP.keep hk h3, HoldsP.keep hk h4⟩
theorem HoldsP.imp (hp : ∀ b, p b → p' b) : ∀ {f : F} {cs : List Value}, HoldsP w p f cs → HoldsP w p' f cs
 | .nil, _, h => h
 | .cons _ _ _ _, _, ⟨Av, cv, Ak, ck, ks, cs', e, h0, h1, h2, h3, h4⟩ => ⟨Av, cv, Ak, ck, ks, cs', e, h0, h1.imp hp, h2.imp hp, HoldsP.imp hp h3, HoldsP.imp hp h4⟩
theorem HoldsP.length : ∀ {f : F} {cs : List Value}, HoldsP w p f cs → cs.length = 3 * f.len
 | .nil, _, h => by cases h; rfl
 | .cons _ _ _ _, _, ⟨_, _, _, _, _, cs', e, _, _, _, _, h4⟩ => by
  have := HoldsP.length h4
  subst e
  simp only [List.length_cons, F.len, this]
  omega
theorem SeesF.keep {f : F} (h : SeesF w p A f) (hk : ∀ q : Addr, p q.block → w'.cell? q = w.cell? q) : SeesF w' p A f := by
 obtain ⟨cs, h1, h2⟩ := h
 exact ⟨cs, h1.keep hk, HoldsP.keep hk h2⟩
theorem SeesF.imp {f : F} (h : SeesF w p A f) (hp : ∀ b, p b → p' b) : SeesF w p' A f := by
 obtain ⟨cs, h1, h2⟩ := h
 exact ⟨cs, h1.imp hp, HoldsP.imp hp h2⟩
theorem SeesF.on {f : F} (h : SeesF w (· < w.heap.size) A f) (hb : Below w.heap.size w w') : SeesF w' (· < w'.heap.size) A f :=
 (h.keep fun _ hq => hb.cell hq).imp fun _ hb2 => Nat.lt_of_lt_of_le hb2 hb.size
theorem SeesF.nil_ : SeesF w p A .nil := ⟨[], .inl rfl, rfl⟩
end
structure Zn where
 fm : Int
 kd : List UInt8
 st : List UInt8
 su : List UInt8
 gi : List UInt8
 nu : List UInt8
 na : List UInt8
 bi : List UInt8
 sx : List UInt8
 ex : List UInt8
 op : List UInt8
 se : List UInt8
deriving DecidableEq
def Zn.val (z : Zn) : Value := .agg #[.int .i64 z.fm, .string (S z.kd), .string (S z.st), .string (S z.su), .string (S z.gi), .string (S z.nu), .string (S z.na), .string (S z.bi), .string (S z.sx), .string (S z.ex), .string (S z.op), .string (S z.se)]
def Zn.zero : Zn := ⟨0, [], [], [], [], [], [], [], [], [], [], []⟩
def maxN (f : Int) : Nat := if f = 1 then 20 else if f = 2 then 14 else if f = 3 then 9 else 0
def optN (f : Int) : Nat := if f = 1 then 15 else if f = 2 then 7 else if f = 3 then 14 else 0
def namN (f : Int) : Nat := if f = 1 then 30 else if f = 2 then 31 else if f = 3 then 39 else 0
def segs (f : Int) (i : Nat) : List (Nat × Nat) :=
 if f = 3 then (if i = 0 then [(0, 2), (1, 3), (2, 39)] else [(3, 9), (4, 1), (5, 3), (6, 6), (7, 1), (8, 1), (9, 6), (10, 1), (11, 14), (12, 1), (14, 1)])
 else if f = 2 then (if i = 0 then [(0, 2), (1, 3), (2, 31)] else [(3, 9), (4, 1), (5, 3), (6, 6), (7, 1), (8, 1), (9, 6), (10, 1), (11, 7), (14, 1)])
 else (if i = 0 then [(0, 2), (1, 3), (3, 9), (4, 1), (11, 15)] else if i = 1 then [(6, 6), (7, 1), (8, 1), (9, 6), (10, 1), (5, 3), (13, 11), (14, 1)] else [(2, 30)])
def plcs (f : Int) : List (Nat × Nat × Nat) :=
 if f = 3 then [(0, 0, 2), (0, 2, 5), (0, 5, 44), (1, 0, 9), (1, 9, 10), (1, 10, 13), (1, 13, 19), (1, 19, 20), (1, 20, 21), (1, 21, 27), (1, 27, 28), (1, 28, 42), (1, 42, 43), (0, 0, 0), (1, 43, 44)]
 else if f = 2 then [(0, 0, 2), (0, 2, 5), (0, 5, 36), (1, 0, 9), (1, 9, 10), (1, 10, 13), (1, 13, 19), (1, 19, 20), (1, 20, 21), (1, 21, 27), (1, 27, 28), (1, 28, 35), (1, 35, 35), (0, 0, 0), (1, 35, 36)]
 else [(0, 0, 2), (0, 2, 5), (2, 0, 30), (0, 5, 14), (0, 14, 15), (1, 15, 18), (1, 0, 6), (1, 6, 7), (1, 7, 8), (1, 8, 14), (1, 14, 15), (0, 15, 30), (0, 0, 0), (1, 18, 29), (1, 29, 30)]
def plc (f : Int) (k : Nat) : Nat × Nat × Nat := (plcs f).getD k (0, 0, 0)
def cmps (f : Int) : List (Nat × Nat × Nat) :=
 if f = 3 then [(1, 0, 10), (1, 13, 20), (1, 21, 43), (0, 0, 0)] else if f = 2 then [(1, 0, 10), (1, 13, 20), (1, 21, 35), (0, 0, 0)] else [(0, 5, 30), (1, 0, 7), (1, 8, 15), (1, 18, 29)]
def widN (f : Int) : Nat := if f = 3 then 44 else if f = 2 then 36 else 30
def cntN (f : Int) : Nat := if f = 3 then 2 else if f = 2 then 2 else 3
def subL (ls : List (List UInt8)) (p : Nat × Nat × Nat) : List UInt8 := ((ls.getD p.1 []).drop p.2.1).take (p.2.2 - p.2.1)
def cmpT (f : Int) (ls : List (List UInt8)) : List UInt8 := (cmps f).flatMap (subL ls)
def padT (n : Nat) (x : List UInt8) : List UInt8 := x.take n ++ List.replicate (n - x.length) 60
def lineT (sg : List (Nat × Nat)) (T : Nat → List UInt8) : List UInt8 := sg.flatMap fun p => padT p.2 (T p.1)
def linesT (f : Int) (T : Nat → List UInt8) : List (List UInt8) := (List.range (cntN f)).map fun i => lineT (segs f i) T
end Go.Proofs.YtibahbkjjfmbgaaGreatDoor
