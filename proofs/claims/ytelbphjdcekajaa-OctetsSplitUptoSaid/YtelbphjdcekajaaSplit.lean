/-
  What is proved here: what the reference's SameLists returns for equal lists, and what the reference's and the program's Split return for slices of at most 2^40 bytes.
-/
import Derived.Test.YtelbphjdcekajaaRows
import Derived.Test.YtelbphjdcekajaaKit
import Derived.Test.YtelbphjdcekajaaLists
import Derived.Test.YtelbphjdcekajaaRef
namespace Go.Proofs.Ytelbphjdcekajaa
open Go.RowKit

set_option maxHeartbeats 400000 in
theorem ref_sameL_yes (A1 A2 : Option Addr) (c1 c2 n : Nat) (ls : List (List UInt8)) (w : World) (B : Nat) (h1 : SeesL w B A1 ls) (h2 : SeesL w B A2 ls) (hn : n = ls.length) (m : n ≤ maxLen) (mm : ∀ l ∈ ls, l.length ≤ maxLen) :
    Calls Try.prog 23 #[.slice A1 n c1, .slice A2 n c2] w fun e w' => e = .returned (.bool true) ∧ ∃ d, w' = w.drewN d := by
  obtain ⟨vs1, s1, l1⟩ := h1
  obtain ⟨vs2, s2, l2⟩ := h2
  unfold maxLen at m
  have L := Lib.hid hn
  clear hn
  have hne : ((n : Int) != (n : Int)) = false := by simp
  have MM := Lib.hid mm
  have L1 := Lib.hid l1
  have L2 := Lib.hid l2
  clear mm l1 l2
  go_enter Try.func23, Try.ntmps23
  go_wp2
  go_loopw [5] (fun i wr => ∃ k d : Nat, k ≤ n ∧ i = .int .i64 k ∧ wr = w.drewN d) (fun i _ => n - (intOf i).toNat)
  case atStart => exact ⟨0, 0, Nat.zero_le _, rfl, rfl⟩
  case round =>
    obtain ⟨k, d, hk, rfl, hw⟩ := hrel
    have q1 : ∀ p, wr.cell? p = w.cell? p := fun p => by rw [hw]; rfl
    have HW := Lib.hid hw
    clear hw
    by_cases hlt : k < n
    · have hkx : k < ls.length := by have := L.out; omega
      obtain ⟨x, hx⟩ : ∃ x, x = ls[k] := ⟨_, rfl⟩
      have hget : ls[k]? = some x := by rw [hx, List.getElem?_eq_getElem hkx]
      obtain ⟨B1, d1, hv1, t1⟩ := L1.out.2 k x hget
      obtain ⟨B2, d2, hv2, t2⟩ := L2.out.2 k x hget
      obtain ⟨b1, o1, rfl, hb1, hc1⟩ := s1.at_ (k := k) (by rw [L1.out.1]; exact hkx)
      obtain ⟨b2, o2, rfl, hb2, hc2⟩ := s2.at_ (k := k) (by rw [L2.out.1]; exact hkx)
      have g1 := (q1 _).trans ((hc1 k (by rw [L1.out.1]; exact hkx)).trans hv1)
      have g2 := (q1 _).trans ((hc2 k (by rw [L2.out.1]; exact hkx)).trans hv2)
      have t1 := t1.keep fun p _ => q1 p
      have t2 := t2.keep fun p _ => q1 p
      have hm : x.length ≤ maxLen := MM.out x (by rw [hx]; exact List.getElem_mem hkx)
      have hS : ∀ u, Calls Try.prog 13 #[.slice B1 x.length d1, .slice B2 x.length d2] (wr.drewN u) fun e w' => e = .returned (.bool true) ∧ ∃ q, w' = (wr.drewN u).drewN q := fun u => by
        have h := ref_same B1 B2 d1 d2 x.length x.length x x (wr.drewN u) B (t1.drewN u) (t2.drewN u) rfl rfl hm
        rw [sameB_true rfl] at h
        exact h
      have HS := Lib.hid hS
      clear hc1 hc2 hx hget hv1 hv2 hm hS q1
      go_wp2
      go_quiet ((go_at_call 13; exact Calls.quiet_of (HS.out _)))
      go_wp2
      go_roundw
      case rel => exact ⟨k + 1, d + nq, by omega, by go_num, by rw [HW.out, World.drewN_drewN]⟩
      case measure => simp [intOf]; omega
    · clear q1
      go_wp2
      go_ret
      exact ⟨rfl, d, HW.out⟩

theorem sp_info : (Try.prog.info? 5).map (fun i => (i.zero, i.size, i.bytes)) = some (some (.int .u8 0), 1, 1) := by kernel_rfl
theorem sp_infoL : (Try.prog.info? 22).map (fun i => (i.zero, i.size, i.bytes)) = some (some (.slice none 0 0), 1, 24) := by kernel_rfl
theorem sp_size : (Try.prog.info? 5).map (·.size) = some 1 := by kernel_rfl

def pieceAt (x : List UInt8) (s i : Nat) : List UInt8 := (x.drop (i * s)).take s
def splitTo (x : List UInt8) (s k : Nat) : List (List UInt8) := (List.range k).map (pieceAt x s)
def splitL (x : List UInt8) (s : Nat) : List (List UInt8) := splitTo x s ((x.length + s - 1) / s)
theorem splitTo_length (x : List UInt8) (s k : Nat) : (splitTo x s k).length = k := by simp [splitTo]
theorem splitTo_snoc (x : List UInt8) (s k : Nat) : splitTo x s (k + 1) = splitTo x s k ++ [pieceAt x s k] := by simp [splitTo, List.range_succ]
theorem piece_length (x : List UInt8) (s k : Nat) : (pieceAt x s k).length = Nat.min s (x.length - k * s) := by
  unfold pieceAt; rw [List.length_take, List.length_drop]
theorem split_end {x : List UInt8} {s k : Nat} (hs : 0 < s) (h1 : x.length ≤ k * s) (h2 : k * s < x.length + s) : splitTo x s k = splitL x s := by
  unfold splitL
  congr 1
  have h3 : k ≤ (x.length + s - 1) / s := (Nat.le_div_iff_mul_le hs).2 (by omega)
  have h4 : (x.length + s - 1) / s < k + 1 := (Nat.div_lt_iff_lt_mul hs).2 (by rw [Nat.succ_mul]; omega)
  exact Nat.le_antisymm h3 (Nat.le_of_lt_succ h4)

/-- what the loop keeps -/
def SpRel (x : List UInt8) (s k : Nat) (v : Value) (w wr : World) : Prop :=
  (∃ vs, wr.ownsRow w.heap.size 22 1 v k vs ∧ Owned wr w.heap.size 5 vs (splitTo x s k)) ∧ Below w.heap.size w wr ∧ k * s < x.length + s

/-- one round: the piece is made, filled, and appended -/
theorem sp_step {x : List UInt8} {s k g m c : Nat} {v v' : Value} {vs : List Value} {w wr w1 w2 w3 : World} {o : Obj} (hv : wr.ownsRow w.heap.size 22 1 v k vs) (ow : Owned wr w.heap.size 5 vs (splitTo x s k)) (hb : Below w.heap.size w wr)
    (hg1 : wr.grownBy w1 none) (hgr : g = wr.heap.size) (hg2 : w1.grownBy w2 (some g))
    (hp : w2.ownsRow w.heap.size 5 1 (.slice (some ⟨g, 0, none⟩) m c) m (Us (pieceAt x s k)))
    (hv3 : w3.ownsRow w.heap.size 22 1 v' (k + 1) (vs ++ [.slice (some ⟨g, 0, none⟩) m c])) (hg3 : (w2.alloc o).grownBy w3 v.ownBlock) (hlt : k * s < x.length) :
    SpRel x s (k + 1) v' w w3 := by
  have hm : m = (pieceAt x s k).length := by have := hp.1; rw [Us_length] at this; omega
  have hs1 := hb.size
  have hne : ∀ u : Value, (∀ q, u.ownBlock = some q → q < wr.heap.size) → u.ownBlock ≠ some g := fun u hu e => by have := hu g e; omega
  have hv2 := own_far (own_new hv hg1) hg2 (hne v fun q hq => (hv.lt q hq).2)
  have ow2 := (ow.new hg1).far hg2 fun u hu => hne u fun q hq => ow.below_ u hu q hq
  have ow2' := (ow2.alloc o)
  subst hm
  have ow3 := (ow2'.snoc (hp.alloc o)).kept (hv2.alloc o) (by decide) hg3
  refine ⟨⟨_, hv3, by rw [splitTo_snoc]; exact ow3⟩, ?_, by rw [Nat.succ_mul]; omega⟩
  have b1 := hb.grown hg1 hs1 (by simp)
  have b2 := b1.grown hg2 b1.size (fun q hq => by injection hq with hq; omega)
  exact (b2.alloc b2.size o).grown hg3 (by have := b2.size; simp; omega) (fun q hq => (hv.lt q hq).1)

theorem sp_fill {w : World} {B : Nat} {e : TypeId} {d p : List UInt8} {m g c : Nat} (hm : m ≤ d.length) (hp : d.take m = p) :
    w.ownsRow B e 1 (.slice (some ⟨g, 0, none⟩) m c) m ((Us d).take m ++ (madeCells (Value.int .u8 0).cells (m * 1)).toList.drop (Us d).length) = w.ownsRow B e 1 (.slice (some ⟨g, 0, none⟩) m c) m (Us p) := by
  have e1 : (madeCells (Value.int .u8 0).cells (m * 1)).toList = List.replicate m (.int .u8 0) := by simp [Value.cells, toList_madeCells_one]
  rw [e1, List.drop_eq_nil_of_le (by rw [Us_length]; simpa using hm), List.append_nil, ← Us_take, hp]

theorem sp_past {x : List UInt8} {t : Nat} (h : x.length ≤ t) : Us (x.drop t) = [] := by
  rw [List.drop_eq_nil_of_le h]; rfl
theorem sp_cut {x : List UInt8} {s k q c : Nat} {w : World} {B : Nat} {A : Option Addr} (h : Sees w B A (Us (x.drop (k * s)))) (hq : (x.drop (k * s)).length = q) (hqc : q ≤ c) (hsq : s ≤ q) :
    Sees w B (if c = s then A else Option.map (fun x => x.add s) A) (Us (x.drop ((k + 1) * s))) := by
  have e : x.drop ((k + 1) * s) = (x.drop (k * s)).drop s := by rw [List.drop_drop, Nat.succ_mul]
  rw [e]
  rcases Nat.lt_or_ge s q with hlt | hge
  · rw [if_neg (by omega), Us_drop]
    exact h.cut (by rw [Us_length]; omega)
  · exact .inl (by rw [List.drop_eq_nil_of_le (by omega)]; rfl)
theorem SpRel.done {x : List UInt8} {s k : Nat} {v : Value} {w wr : World} (h : SpRel x s k v w wr) (hk : x.length ≤ k * s) (hs : 0 < s) : GivesL w (splitL x s) 0 (.returned (.tuple #[v, .int .i64 0])) wr := by
  obtain ⟨⟨vs, hv, ow⟩, hb, hlt⟩ := h
  rw [split_end hs hk hlt] at ow
  obtain ⟨A, c, rfl⟩ := own_form hv
  have hl : k = (splitL x s).length := by
    have h1 := hv.1
    have h2 := ow.1
    omega
  exact ⟨A, c, by rw [hl], ⟨vs, Sees.of_own hv, ow.lists⟩, hb⟩

set_option maxHeartbeats 400000 in
theorem oct_split (A : Option Addr) (c n s : Nat) (x : List UInt8) (w : World) (h : Sees w w.heap.size A (Us x)) (l : n = x.length) (lc : n ≤ c) (m : n ≤ 1099511627776) (hs : 0 < s) (hs2 : s ≤ 9223372036854775807) :
    Calls Try.prog 21 #[.slice A n c, .int .i64 (s : Int)] w (GivesL w (splitL x s) 0) := by
  obtain ⟨i0, hi, hz0, hz1, hz2⟩ := info_parts sp_info
  obtain ⟨i1, hj, hy0, hy1, hy2⟩ := info_parts sp_infoL
  have d0 : decide ((s : Int) < 1) = false := by simp; omega
  have L := Lib.hid l
  clear l
  go_enter Try.func21, Try.ntmps21
  go_wp2
  go_loopw [6, 7] (fun v r wr => ∃ (k q c' : Nat) (A' : Option Addr), r = .slice A' q c' ∧ Hid (q = n - k * s) ∧ q ≤ c' ∧ q ≤ n ∧ Sees w w.heap.size A' (Us (x.drop (k * s))) ∧ SpRel x s k v w wr) (fun _ r _ => match r with | .slice _ q _ => q | _ => 0)
  case atStart => exact ⟨0, n, c, A, rfl, Lib.hid (by omega), lc, Nat.le_refl _, by simpa using h, ⟨[], World.ownsRow_nil _ _ _ _, Owned.nil_⟩, Below.refl _ _, by omega⟩
  case round =>
    obtain ⟨k, q, c', A', rfl, HQ, hqc, hqn, hsee, hR⟩ := hrel
    by_cases hlt : 0 < q
    · by_cases hqs : q < s
      · obtain ⟨⟨vs, hv, ow⟩, hb, hks⟩ := hR
        have hkn : Hid (k * s < x.length) := Lib.hid (by have := HQ.out; have := L.out; omega)
        have hkb : k ≤ 1099511627776 := by have h1 := hkn.out; have h2 := L.out; have h3 := Nat.le_mul_of_pos_right k hs; omega
        have hvne : u6.ownBlock ≠ some wr.heap.size := fun e => by have := (hv.lt _ e).2; omega
        have hpl : Hid ((x.drop (k * s)).take q = pieceAt x s k) := Lib.hid (by rw [List.take_of_length_le (by rw [List.length_drop]; have := HQ.out; have := L.out; omega)]; unfold pieceAt; rw [List.take_of_length_le (by rw [List.length_drop]; have := HQ.out; have := L.out; omega)])
        have hdl : Hid (q ≤ (x.drop (k * s)).length) := Lib.hid (by rw [List.length_drop]; have := HQ.out; have := L.out; omega)
        go_wp2_with (first | (at_make; refine wpList_make_full _ rfl _ _ 22 rfl w.heap.size 5 i0 (.int .u8 0) 1 Try.underlying22 hi hz0 hz1 _ _ _ _ q rfl rfl (by simp) (by simp) (by rw [hz2]; omega) (by unfold maxLen; omega) hb.size ?_; intro w1 hown1 hg1; have hb1 := hb.grown hg1 hb.size (by simp); have hsee1 := hsee.below hb1) | (with_reducible refine wpList_copy_fill rfl (.tmp 22) (.tmp 23) 22 22 rfl 5 Try.underlying22 sp_size w.heap.size wr.heap.size q q _ rfl hown1 A' q c' w.heap.size (Us (x.drop (k * s))) rfl (by rw [Us_length, List.length_drop, HQ.out, L.out]) hsee1 (Us_one _) ?_; intro w2 hown2 hg2; rw [sp_fill hdl.out hpl.out] at hown2; have hv2 := own_far (own_new hv hg1) hg2 hvne) | (at_builtin; refine wpList_append_own _ rfl (.tmp 25) (.tmp 27) 35 rfl w.heap.size 22 i1 (.slice none 0 0) 1 24 Try.underlying35 hj hy0 hy1 hy2 rfl (by decide) _ _ _ rfl (hv2.alloc _) ⟨w2.heap.size, 0, none⟩ 1 1 [.slice (some ⟨wr.heap.size, 0, none⟩) q q] rfl rfl (news_of_one _ _ _) (by simp [Value.oneCell']) (by unfold maxLen; omega) (by omega) (by have := hb.size; have := hg1.size; have := hg2.size; simp; omega) ?_; intro v' w3 hv3 hg3 _))
        exact ⟨⟨k + 1, 0, c' - q, _, rfl, Lib.hid (by have := HQ.out; rw [Nat.succ_mul]; omega), Nat.zero_le _, Nat.zero_le _, .inl (sp_past (by have := HQ.out; have := L.out; rw [Nat.succ_mul]; omega)), sp_step hv ow hb hg1 rfl hg2 hown2 hv3 hg3 hkn.out⟩, hlt⟩
      · obtain ⟨⟨vs, hv, ow⟩, hb, hks⟩ := hR
        have hkn : Hid (k * s < x.length) := Lib.hid (by have := HQ.out; have := L.out; omega)
        have hkb : k ≤ 1099511627776 := by have h1 := hkn.out; have h2 := L.out; have h3 := Nat.le_mul_of_pos_right k hs; omega
        have hvne : u6.ownBlock ≠ some wr.heap.size := fun e => by have := (hv.lt _ e).2; omega
        have hpl : Hid ((x.drop (k * s)).take s = pieceAt x s k) := Lib.hid (by rfl)
        have hdl : Hid (s ≤ (x.drop (k * s)).length) := Lib.hid (by rw [List.length_drop]; have := HQ.out; have := L.out; omega)
        go_wp2_with (first | (at_make; refine wpList_make_full _ rfl _ _ 22 rfl w.heap.size 5 i0 (.int .u8 0) 1 Try.underlying22 hi hz0 hz1 _ _ _ _ s rfl rfl (by simp) (by simp) (by rw [hz2]; omega) (by unfold maxLen; omega) hb.size ?_; intro w1 hown1 hg1; have hb1 := hb.grown hg1 hb.size (by simp); have hsee1 := hsee.below hb1) | (with_reducible refine wpList_copy_fill rfl (.tmp 22) (.tmp 23) 22 22 rfl 5 Try.underlying22 sp_size w.heap.size wr.heap.size s s _ rfl hown1 A' q c' w.heap.size (Us (x.drop (k * s))) rfl (by rw [Us_length, List.length_drop, HQ.out, L.out]) hsee1 (Us_one _) ?_; intro w2 hown2 hg2; rw [sp_fill hdl.out hpl.out] at hown2; have hv2 := own_far (own_new hv hg1) hg2 hvne) | (at_builtin; refine wpList_append_own _ rfl (.tmp 25) (.tmp 27) 35 rfl w.heap.size 22 i1 (.slice none 0 0) 1 24 Try.underlying35 hj hy0 hy1 hy2 rfl (by decide) _ _ _ rfl (hv2.alloc _) ⟨w2.heap.size, 0, none⟩ 1 1 [.slice (some ⟨wr.heap.size, 0, none⟩) s s] rfl rfl (news_of_one _ _ _) (by simp [Value.oneCell']) (by unfold maxLen; omega) (by omega) (by have := hb.size; have := hg1.size; have := hg2.size; simp; omega) ?_; intro v' w3 hv3 hg3 _))
        exact ⟨⟨k + 1, q - s, c' - s, _, rfl, Lib.hid (by have := HQ.out; rw [Nat.succ_mul]; omega), by omega, by omega, sp_cut hsee (by rw [List.length_drop]; have := HQ.out; have := L.out; omega) hqc (by omega), sp_step hv ow hb hg1 rfl hg2 hown2 hv3 hg3 hkn.out⟩, by show q - s < q; omega⟩
    · have hd := hR.done (by have := HQ.out; have := L.out; omega) hs
      have HD := Lib.hid hd
      clear hd hR
      go_wp2
      go_ret2
      exact HD.out

theorem sp_src {x p : List UInt8} {b o t m : Nat} {wr : World} (hc : ∀ j, j < (Us x).length → wr.cell? ⟨b, o + j, none⟩ = (Us x)[j]?) (hp : p = (x.drop t).take m) (hm : t + m ≤ x.length) :
    ∀ j u, (Us p)[j]? = some u → wr.cell? ((⟨b, o + t, none⟩ : Addr).add j) = some u := by
  intro j u hu
  have hj : j < p.length := by have := (List.getElem?_eq_some_iff.1 hu).1; rwa [Us_length] at this
  have hl : j < m := by rw [hp, List.length_take, List.length_drop] at hj; omega
  have hadd : (⟨b, o + t, none⟩ : Addr).add j = ⟨b, o + (t + j), none⟩ := by
    unfold Addr.add; split
    · subst_vars; simp
    · simp; omega
  rw [hadd, hc _ (by rw [Us_length]; omega), ← hu, hp, Us_take, List.getElem?_take, if_pos hl, Us_drop, List.getElem?_drop]

set_option maxHeartbeats 400000 in
theorem ref_split (A : Option Addr) (c n s : Nat) (x : List UInt8) (w : World) (h : Sees w w.heap.size A (Us x)) (l : n = x.length) (lc : n ≤ c) (m : n ≤ 1099511627776) (hs : 0 < s) (hs2 : s ≤ 9223372036854775807) :
    Calls Try.prog 22 #[.slice A n c, .int .i64 (s : Int)] w (GivesL w (splitL x s) 0) := by
  obtain ⟨i0, hi, hz0, hz1, hz2⟩ := info_parts sp_info
  obtain ⟨i1, hj, hy0, hy1, hy2⟩ := info_parts sp_infoL
  have d0 : decide ((s : Int) < 1) = false := by simp; omega
  have L := Lib.hid l
  clear l
  go_enter Try.func22, Try.ntmps22
  go_wp2
  go_loopw [6, 7] (fun v r wr => ∃ (k t : Nat), r = .int .i64 t ∧ t ≤ n ∧ Hid (n - t = n - k * s ∧ (t < n → t = k * s)) ∧ SpRel x s k v w wr) (fun _ r _ => n - (intOf r).toNat)
  case atStart => exact ⟨0, 0, rfl, Nat.zero_le _, Lib.hid (by omega), ⟨[], World.ownsRow_nil _ _ _ _, Owned.nil_⟩, Below.refl _ _, by omega⟩
  case round =>
    obtain ⟨k, t, rfl, htn, HT, hR⟩ := hrel
    by_cases hlt : t < n
    · by_cases hqs : s < n - t
      · obtain ⟨⟨vs, hv, ow⟩, hb, hks⟩ := hR
        have hsee1 := h.below hb
        obtain ⟨b1, o1, rfl, hlt1, hc1⟩ := hsee1.at_ (k := t) (by rw [Us_length]; have := L.out; omega)
        have hkn : Hid (k * s < x.length) := Lib.hid (by have := HT.out; have := L.out; omega)
        have hkb : k ≤ 1099511627776 := by have h1 := hkn.out; have h2 := L.out; have h3 := Nat.le_mul_of_pos_right k hs; omega
        have hpl : Hid ((x.drop (k * s)).take s = pieceAt x s k) := Lib.hid (by rfl)
        have hpn : Hid ((Us (pieceAt x s k)).length = s * 1) := Lib.hid (by rw [← hpl.out, Us_length, List.length_take, List.length_drop]; have := HT.out; have := L.out; omega)
        have hpc : Hid (∀ j u, (Us (pieceAt x s k))[j]? = some u → wr.cell? ((⟨b1, o1 + t, none⟩ : Addr).add j) = some u) := Lib.hid (sp_src hc1 (by rw [← hpl.out, show k * s = t from by have := HT.out; omega]) (by have := L.out; omega))
        clear hc1
        go_wp2_with (first | (at_builtin; refine wpList_append_lies _ rfl (.const (.slice none 0 0)) (.tmp 29) 22 rfl w.heap.size 5 i0 (.int .u8 0) 1 1 Try.underlying22 hi hz0 hz1 hz2 rfl (by decide) (.slice none 0 0) 0 [] rfl (World.ownsRow_nil _ _ _ _) ⟨b1, o1 + t, none⟩ _ _ (Us (pieceAt x s k)) rfl (by have := hpn.out; omega) hpc.out (Us_one _) (by omega) (by unfold maxLen; omega) (by omega) hb.size wr.heap.size rfl ?_; intro g cap w1 hp hg1 hgl _; obtain rfl : g = wr.heap.size := (by simpa [Value.ownBlock] using hgl); simp only [Nat.zero_add, Nat.add_sub_cancel_left, List.nil_append] at hp; have hv1 := own_new hv hg1) | (at_builtin; refine wpList_append_own _ rfl (.tmp 23) (.tmp 31) 35 rfl w.heap.size 22 i1 (.slice none 0 0) 1 24 Try.underlying35 hj hy0 hy1 hy2 rfl (by decide) _ _ _ rfl (hv1.alloc _) ⟨w1.heap.size, 0, none⟩ 1 1 [.slice (some ⟨wr.heap.size, 0, none⟩) s cap] rfl rfl (news_of_one _ _ _) (by simp [Value.oneCell']) (by unfold maxLen; omega) (by omega) (by have := hb.size; have := hg1.size; simp; omega) ?_; intro v' w3 hv3 hg3 _))
        go_roundw
        case rel => exact ⟨k + 1, t + s, by go_num, by omega, Lib.hid (by have := HT.out; rw [Nat.succ_mul]; omega), sp_step hv ow hb hg1 rfl (World.grownBy.refl _ _) hp hv3 hg3 hkn.out⟩
        case measure => simp [intOf]; omega
      · obtain ⟨⟨vs, hv, ow⟩, hb, hks⟩ := hR
        have hsee1 := h.below hb
        obtain ⟨b1, o1, rfl, hlt1, hc1⟩ := hsee1.at_ (k := t) (by rw [Us_length]; have := L.out; omega)
        have hkn : Hid (k * s < x.length) := Lib.hid (by have := HT.out; have := L.out; omega)
        have hkb : k ≤ 1099511627776 := by have h1 := hkn.out; have h2 := L.out; have h3 := Nat.le_mul_of_pos_right k hs; omega
        have hpl : Hid ((x.drop (k * s)).take (n - t) = pieceAt x s k) := Lib.hid (by rw [List.take_of_length_le (by rw [List.length_drop]; have := HT.out; have := L.out; omega)]; unfold pieceAt; rw [List.take_of_length_le (by rw [List.length_drop]; have := HT.out; have := L.out; omega)])
        have hpn : Hid ((Us (pieceAt x s k)).length = (n - t) * 1) := Lib.hid (by rw [← hpl.out, Us_length, List.length_take, List.length_drop]; have := HT.out; have := L.out; omega)
        have hpc : Hid (∀ j u, (Us (pieceAt x s k))[j]? = some u → wr.cell? ((⟨b1, o1 + t, none⟩ : Addr).add j) = some u) := Lib.hid (sp_src hc1 (by rw [← hpl.out, show k * s = t from by have := HT.out; omega]) (by have := L.out; omega))
        clear hc1
        go_wp2_with (first | (at_builtin; refine wpList_append_lies _ rfl (.const (.slice none 0 0)) (.tmp 29) 22 rfl w.heap.size 5 i0 (.int .u8 0) 1 1 Try.underlying22 hi hz0 hz1 hz2 rfl (by decide) (.slice none 0 0) 0 [] rfl (World.ownsRow_nil _ _ _ _) ⟨b1, o1 + t, none⟩ _ _ (Us (pieceAt x s k)) rfl (by have := hpn.out; omega) hpc.out (Us_one _) (by omega) (by unfold maxLen; omega) (by omega) hb.size wr.heap.size rfl ?_; intro g cap w1 hp hg1 hgl _; obtain rfl : g = wr.heap.size := (by simpa [Value.ownBlock] using hgl); simp only [Nat.zero_add, Nat.add_sub_cancel_left, List.nil_append] at hp; have hv1 := own_new hv hg1) | (at_builtin; refine wpList_append_own _ rfl (.tmp 23) (.tmp 31) 35 rfl w.heap.size 22 i1 (.slice none 0 0) 1 24 Try.underlying35 hj hy0 hy1 hy2 rfl (by decide) _ _ _ rfl (hv1.alloc _) ⟨w1.heap.size, 0, none⟩ 1 1 [.slice (some ⟨wr.heap.size, 0, none⟩) (n - t) cap] rfl rfl (news_of_one _ _ _) (by simp [Value.oneCell']) (by unfold maxLen; omega) (by omega) (by have := hb.size; have := hg1.size; simp; omega) ?_; intro v' w3 hv3 hg3 _))
        go_roundw
        case rel => exact ⟨k + 1, t + (n - t), by go_num, by omega, Lib.hid (by have := HT.out; rw [Nat.succ_mul]; omega), sp_step hv ow hb hg1 rfl (World.grownBy.refl _ _) hp hv3 hg3 hkn.out⟩
        case measure => simp [intOf]; omega
    · have hd := hR.done (by have := HT.out; have := L.out; omega) hs
      have HD := Lib.hid hd
      clear hd hR
      go_wp2
      go_ret2
      exact HD.out

/-- what Split answers: the pieces and the code -/
def splitB (x : List UInt8) (s : Int) : List (List UInt8) := if s < 1 then [] else splitL x s.toNat
def splitE (s : Int) : Int := if s < 1 then 3 else 0

theorem oct_split_no (A : Option Addr) (c n : Nat) (s : Int) (w : World) (hs : s < 1) :
    Calls Try.prog 21 #[.slice A n c, .int .i64 s] w fun e w' => e = .returned (.tuple #[.slice none 0 0, .int .i64 3]) ∧ w' = w := by
  have d0 : decide (s < 1) = true := by simp; omega
  clear hs
  go_enter Try.func21, Try.ntmps21
  go_wp2
  go_ret2
  exact ⟨rfl, rfl⟩
theorem oct_split_any (A : Option Addr) (c : Nat) (s : Int) (x : List UInt8) (w : World) (h : Sees w w.heap.size A (Us x)) (lc : x.length ≤ c) (m : x.length ≤ 1099511627776) (ws : (Lit.int .i64 s).wf = true) :
    Calls Try.prog 21 #[.slice A x.length c, .int .i64 s] w (GivesL w (splitB x s) (splitE s)) := by
  have b2 : -9223372036854775808 ≤ s ∧ s ≤ 9223372036854775807 := by simpa [Lit.wf, IntKind.min, IntKind.max, IntKind.signed, IntKind.bits] using ws
  unfold splitB splitE
  by_cases hs : s < 1
  · rw [if_pos hs, if_pos hs]
    exact (oct_split_no A c _ s w hs).mono fun e w' ⟨he, hw⟩ => by subst hw; exact ⟨none, 0, he, SeesL.nil_, Below.refl _ _⟩
  · rw [if_neg hs, if_neg hs]
    obtain ⟨t, rfl⟩ := Int.eq_ofNat_of_zero_le (show 0 ≤ s from by omega)
    exact oct_split A c _ t x w h rfl lc m (by omega) (by omega)

theorem ref_split_no (A : Option Addr) (c n : Nat) (s : Int) (w : World) (hs : s < 1) :
    Calls Try.prog 22 #[.slice A n c, .int .i64 s] w fun e w' => e = .returned (.tuple #[.slice none 0 0, .int .i64 3]) ∧ w' = w := by
  have d0 : decide (s < 1) = true := by simp; omega
  clear hs
  go_enter Try.func22, Try.ntmps22
  go_wp2
  go_ret2
  exact ⟨rfl, rfl⟩
theorem ref_split_any (A : Option Addr) (c : Nat) (s : Int) (x : List UInt8) (w : World) (h : Sees w w.heap.size A (Us x)) (lc : x.length ≤ c) (m : x.length ≤ 1099511627776) (ws : (Lit.int .i64 s).wf = true) :
    Calls Try.prog 22 #[.slice A x.length c, .int .i64 s] w (GivesL w (splitB x s) (splitE s)) := by
  have b2 : -9223372036854775808 ≤ s ∧ s ≤ 9223372036854775807 := by simpa [Lit.wf, IntKind.min, IntKind.max, IntKind.signed, IntKind.bits] using ws
  unfold splitB splitE
  by_cases hs : s < 1
  · rw [if_pos hs, if_pos hs]
    exact (ref_split_no A c _ s w hs).mono fun e w' ⟨he, hw⟩ => by subst hw; exact ⟨none, 0, he, SeesL.nil_, Below.refl _ _⟩
  · rw [if_neg hs, if_neg hs]
    obtain ⟨t, rfl⟩ := Int.eq_ofNat_of_zero_le (show 0 ≤ s from by omega)
    exact ref_split A c _ t x w h rfl lc m (by omega) (by omega)

theorem ref_sameL_b (A1 A2 : Option Addr) (c1 c2 : Nat) (ls : List (List UInt8)) (w : World) (h1 : SeesL w w.heap.size A1 ls) (h2 : SeesL w w.heap.size A2 ls) (m : ls.length ≤ maxLen) (mm : ∀ l ∈ ls, l.length ≤ maxLen) :
    Calls Try.prog 23 #[.slice A1 ls.length c1, .slice A2 ls.length c2] w fun e w' => e = .returned (.bool true) ∧ Below w.heap.size w w' :=
  (ref_sameL_yes A1 A2 c1 c2 _ ls w _ h1 h2 rfl m mm).mono fun _ _ ⟨he, d, hw⟩ => ⟨he, by rw [hw]; exact below_drewN _ _ _⟩

/-! plain facts on the pieces -/
theorem pieces_le (n s : Nat) (hs : 0 < s) : (n + s - 1) / s ≤ n := by
  have h : (n + s - 1) / s < n + 1 := (Nat.div_lt_iff_lt_mul hs).2 (by have := Nat.le_mul_of_pos_right n hs; rw [Nat.succ_mul]; omega)
  omega
theorem splitB_length (x : List UInt8) (s : Int) : (splitB x s).length ≤ x.length := by
  unfold splitB
  split
  · simp
  · rw [splitL, splitTo_length]; exact pieces_le _ _ (by omega)
theorem splitB_each (x : List UInt8) (s : Int) : ∀ l ∈ splitB x s, l.length ≤ x.length := by
  unfold splitB
  split
  · simp
  · intro l hl
    simp only [splitL, splitTo, List.mem_map] at hl
    obtain ⟨i, _, rfl⟩ := hl
    unfold pieceAt
    rw [List.length_take, List.length_drop]
    omega
theorem splitB_pos (x : List UInt8) (s : Int) : ∀ l ∈ splitB x s, 0 < l.length := by
  unfold splitB
  split
  · simp
  · intro l hl
    simp only [splitL, splitTo, List.mem_map, List.mem_range] at hl
    obtain ⟨i, hi, rfl⟩ := hl
    have h0 : 0 < s.toNat := by omega
    have h1 := (Nat.le_div_iff_mul_le h0).1 (show i + 1 ≤ _ from hi)
    rw [Nat.succ_mul] at h1
    unfold pieceAt
    rw [List.length_take, List.length_drop]
    omega
theorem flat_snoc {ls : List (List UInt8)} {k : Nat} {l : List UInt8} (h : ls[k]? = some l) : Us (ls.take k).flatten ++ Us l = Us (ls.take (k + 1)).flatten := by
  obtain ⟨hk, rfl⟩ := List.getElem?_eq_some_iff.1 h
  rw [← Us_append, List.take_succ_eq_append_getElem hk, List.flatten_append]
  congr 1
  simp only [List.flatten_cons, List.flatten_nil, List.append_nil]
theorem join_to (x : List UInt8) (s k : Nat) : (splitTo x s k).flatten = x.take (k * s) := by
  induction k with
  | zero => simp [splitTo]
  | succ k ih =>
    rw [splitTo_snoc, List.flatten_append, ih, Nat.succ_mul]
    simp only [List.flatten_cons, List.flatten_nil, List.append_nil]
    unfold pieceAt
    rw [List.take_add]
theorem join_split (x : List UInt8) (s : Int) (hs : ¬ s < 1) : (splitB x s).flatten = x := by
  unfold splitB
  rw [if_neg hs, splitL, join_to]
  refine List.take_of_length_le ?_
  have h0 : 0 < s.toNat := by omega
  have h := Nat.lt_div_mul_add (a := x.length + s.toNat - 1) h0
  omega

end Go.Proofs.Ytelbphjdcekajaa
