/-
  What is proved here: what the reference's Unhex returns, for every text shorter than 2^49 bytes.
-/
import Derived.Test.YtddobbigpoplpaaRows
import Derived.Test.YtddobbigpoplpaaKit
import Derived.Test.YtddobbigpoplpaaStr
import Derived.Test.YtddobbigpoplpaaDgr
namespace Go.Proofs.Ytddobbigpoplpaa
open Go.RowKit

theorem un_info : (Try.prog.info? 5).map (fun i => (i.zero, i.size, i.bytes)) = some (some (.int .u8 0), 1, 1) := by kernel_rfl

def chB (x : List UInt8) (i : Nat) : Int := ((x.getD i 0).toNat : Int)
def okAt (x : List UInt8) (i : Nat) : Bool := digB (chB x (2 * i)) && digB (chB x (2 * i + 1))
def unAt (x : List UInt8) (i : Nat) : UInt8 := UInt8.ofNat (16 * digN (chB x (2 * i)) + digN (chB x (2 * i + 1))).toNat
def unOk (x : List UInt8) : Bool := x.length % 2 == 0 && (List.range (x.length / 2)).all (okAt x)
def unB (x : List UInt8) : List UInt8 := if unOk x = true then (List.range (x.length / 2)).map (unAt x) else []
def unE (x : List UInt8) : Int := if unOk x = true then 0 else 1
theorem un_yes {x : List UInt8} (h : unOk x = true) : unB x = (List.range (x.length / 2)).map (unAt x) ∧ unE x = 0 := by simp [unB, unE, h]
theorem un_no {x : List UInt8} (h : unOk x = false) : unB x = [] ∧ unE x = 1 := by simp [unB, unE, h]
def UnGood (x : List UInt8) (k : Nat) : Prop := ∀ i, i < k → okAt x i = true
theorem unOk_odd {x : List UInt8} (h : x.length % 2 ≠ 0) : unOk x = false := by simp [unOk, h]
theorem unOk_bad {x : List UInt8} {k : Nat} (hk : k < x.length / 2) (h : okAt x k = false) : unOk x = false := by
  unfold unOk
  rw [Bool.and_eq_false_iff]
  right
  rw [List.all_eq_false]
  exact ⟨k, by simpa using hk, by simp [h]⟩
theorem unOk_good {x : List UInt8} {k : Nat} (h2 : x.length % 2 = 0) (hk : k = x.length / 2) (h : UnGood x k) : unOk x = true := by
  unfold unOk
  rw [h2]
  simp only [beq_self_eq_true, Bool.true_and, List.all_eq_true, List.mem_range]
  intro i hi
  exact h i (by omega)

theorem s_get {s : ByteArray} {x : List UInt8} (h : s = S x) (i : Nat) (hi : i < s.size) : ((s[i]'hi).toNat : Int) = chB x i := by
  subst h
  have hx : i < x.length := by simpa [S_size] using hi
  show ((x.toArray[i]'(by simpa using hx)).toNat : Int) = chB x i
  simp [chB, hx]
theorem or16 (p q : Nat) (hp : p ≤ 15) (hq : q ≤ 15) : bits .or .u8 ((p : Int) * 16) (q : Int) = ((16 * p + q : Nat) : Int) := by
  have h := u8_or_nat (p * 16) q (by omega) (by omega)
  have e : p * 16 ||| q = 16 * p + q := by
    have := Nat.two_pow_add_eq_or_of_lt (i := 4) (b := q) (by omega) p
    rw [Nat.mul_comm p 16]; exact this.symm
  rw [e] at h
  simpa using h
theorem dig_nat {n : Int} : ∃ p : Nat, digN n = (p : Int) ∧ p ≤ 15 := by
  have h := digV_le n
  unfold digN
  split
  · exact ⟨0, rfl, by omega⟩
  · exact ⟨(digV n).toNat, by omega, by omega⟩
theorem un_val {x : List UInt8} {k p q : Nat} (h1 : digN (chB x (2 * k)) = (p : Int)) (h2 : digN (chB x (2 * k + 1)) = (q : Int)) (hp : p ≤ 15) (hq : q ≤ 15) :
    Value.int .u8 ((16 * p + q : Nat) : Int) = U (unAt x k) := by
  unfold U unAt
  rw [h1, h2, UInt8.toNat_ofNat']
  congr 1
  omega

def unTo (x : List UInt8) (n k : Nat) : List UInt8 := fillP (unAt x) n (fun i => decide (i < k))
def UnRel (B g : Nat) (x : List UInt8) (n k : Nat) (w wr : World) : Prop :=
  wr.ownsRow B 5 1 (.slice (some ⟨g, 0, none⟩) n n) n (Us (unTo x n k)) ∧ Below B w wr ∧ B ≤ g ∧ UnGood x k
theorem UnRel.cell {B g : Nat} {x : List UInt8} {n k : Nat} {w wr : World} (h : UnRel B g x n k w wr) (hk : k < n) : ∃ u, wr.cell? ⟨g, k, none⟩ = some u := by
  have h1 := h.1.cellAt k (by omega)
  have hl : k < (Us (unTo x n k)).length := by rw [Us_length, unTo, fillP_length]; exact hk
  rw [List.getElem?_eq_getElem hl] at h1
  exact ⟨_, h1⟩
theorem UnRel.step {B g : Nat} {x : List UInt8} {n k p q : Nat} {w wr : World} (h : UnRel B g x n k w wr) (h1 : digN (chB x (2 * k)) = (p : Int)) (h2 : digN (chB x (2 * k + 1)) = (q : Int)) (hp : p ≤ 15) (hq : q ≤ 15)
    (g1 : digB (chB x (2 * k)) = true) (g2 : digB (chB x (2 * k + 1)) = true) :
    UnRel B g x n (k + 1) w (wr.setCell ⟨g, k, none⟩ (.int .u8 ((16 * p + q : Nat) : Int))) := by
  rw [un_val h1 h2 hp hq]
  refine ⟨?_, h.2.1.setCell (p := ⟨g, k, none⟩) h.2.2.1 _, h.2.2.1, fun i hi => ?_⟩
  · have h1 := (h.1.stored k (U (unAt x k))).1
    have e : (unTo x n k).set k (unAt x k) = unTo x n (k + 1) := by
      refine fillP_set (by simp) fun i hi => ?_
      have : (i < k + 1) = (i < k) := by apply propext; omega
      simp [this]
    rw [Us_set, e] at h1
    exact h1
  · rcases Nat.lt_or_ge i k with hlt | hge
    · exact h.2.2.2 i hlt
    · obtain rfl : i = k := by omega
      unfold okAt; rw [g1, g2]; rfl
theorem UnRel.done {B g : Nat} {x : List UInt8} {n k : Nat} {w wr : World} (h : UnRel B g x n k w wr) (hB : B = w.heap.size) (hk : k = n) (h2 : x.length = 2 * n) :
    Gives w (unB x) (unE x) (.returned (.tuple #[.slice (some ⟨g, 0, none⟩) n n, .int .i64 0])) wr := by
  subst hB hk
  have ok := unOk_good (x := x) (by omega) (by omega) h.2.2.2
  rw [(un_yes ok).1, (un_yes ok).2, show x.length / 2 = k from by omega]
  refine ⟨some ⟨g, 0, none⟩, k, by simp, ?_, h.2.1⟩
  have h1 := h.1
  have e : unTo x k k = (List.range k).map (unAt x) := fillP_all fun i hi => by simpa using hi
  rw [e] at h1
  exact Sees.of_own h1
theorem un_fail {B : Nat} {x : List UInt8} {w wr : World} (hb : Below B w wr) (hB : B = w.heap.size) (h : unOk x = false) : Gives w (unB x) (unE x) (.returned (.tuple #[.slice none 0 0, .int .i64 1])) wr := by
  subst hB
  rw [(un_no h).1, (un_no h).2]
  exact ⟨none, 0, rfl, .inl rfl, hb⟩

theorem un_news {x : List UInt8} {k p q : Nat} {w : World} {B : Nat} {v : Value} {e : TypeId} (h1 : digV (chB x (2 * k)) = (p : Int)) (h2 : digV (chB x (2 * k + 1)) = (q : Int)) (hp : p ≤ 15) (hq : q ≤ 15) :
    w.ownsRow B e 1 v (k + 1) (Us ((List.range k).map (unAt x)) ++ [.int .u8 (16 * (p : Int) + q)]) = w.ownsRow B e 1 v (k + 1) (Us ((List.range (k + 1)).map (unAt x))) := by
  have e1 : digN (chB x (2 * k)) = (p : Int) := by unfold digN; rw [h1, if_neg (by omega)]
  have e2 : digN (chB x (2 * k + 1)) = (q : Int) := by unfold digN; rw [h2, if_neg (by omega)]
  have h := un_val e1 e2 hp hq
  have h' : Value.int .u8 (16 * (p : Int) + q) = U (unAt x k) := by rw [← h]; congr 1
  rw [h', List.range_succ, List.map_append, Us_append]
  rfl
theorem un_good {x : List UInt8} {k : Nat} (h : UnGood x k) (h1 : 0 ≤ digV (chB x (2 * k))) (h2 : 0 ≤ digV (chB x (2 * k + 1))) : UnGood x (k + 1) := fun i hi => by
  rcases Nat.lt_or_ge i k with hlt | hge
  · exact h i hlt
  · obtain rfl : i = k := by omega
    unfold okAt digB
    rw [decide_eq_true h1, decide_eq_true h2]; rfl
theorem un_end {x : List UInt8} {k : Nat} {w wr : World} {v : Value} {e : TypeId} (hown : wr.ownsRow w.heap.size e 1 v k (Us ((List.range k).map (unAt x)))) (hb : Below w.heap.size w wr) (ok : unOk x = true) (hl : x.length = 2 * k) :
    Gives w (unB x) (unE x) (.returned (.tuple #[v, .int .i64 0])) wr := by
  rw [(un_yes ok).1, (un_yes ok).2, show x.length / 2 = k from by omega]
  exact gives_own hown hb (by simp)

set_option maxHeartbeats 400000 in
theorem ref_unhex (s : ByteArray) (x : List UInt8) (w : World) (hx : s = S x) (hm : s.size ≤ 281474976710656) :
    Calls Try.prog 27 #[.string s] w (Gives w (unB x) (unE x)) := by
  obtain ⟨i0, hi, hz0, hz1, hz2⟩ := info_parts un_info
  have hl : s.size = x.length := by rw [hx, S_size]
  have HX := Lib.hid hx
  have HL := Lib.hid hl
  clear hx hl
  by_cases hp : s.size % 2 = 0
  · obtain ⟨n, hn⟩ : ∃ n, s.size = 2 * n := ⟨s.size / 2, by omega⟩
    have hn1 : s.size ≤ 2 * n := by omega
    have hn2 : 2 * n ≤ s.size := by omega
    have hxl : Hid (x.length = 2 * n) := Lib.hid (by rw [← HL.out]; exact hn)
    have d0 : ((s.size : Int) % 2 != 0) = false := by rw [bne_eq_false_iff_eq]; omega
    clear hn hp
    go_enter Try.func27, Try.ntmps27
    go_wp2
    go_loopw [4, 5] (fun v i wr => ∃ k : Nat, k ≤ n ∧ i = .int .i64 (2 * (k : Int)) ∧ wr.ownsRow w.heap.size 5 1 v k (Us ((List.range k).map (unAt x))) ∧ Below w.heap.size w wr ∧ UnGood x k) (fun _ i _ => 2 * n - (intOf i).toNat)
    case atStart => exact ⟨0, Nat.zero_le _, rfl, World.ownsRow_nil _ _ _ _, Below.refl _ _, fun i hi => absurd hi (by omega)⟩
    case round =>
      obtain ⟨k, hk, rfl, hown, hb, hgood⟩ := hrel
      have HG := Lib.hid hgood
      clear hgood
      by_cases hlt : k < n
      · have i1 : 2 * k < s.size := by omega
        have i2 : 2 * k + 1 < s.size := by omega
        have c1 := s_get HX.out (2 * k) i1
        have c2 := s_get HX.out (2 * k + 1) i2
        have l1 := UInt8.toNat_lt (s[2 * k]'i1)
        have l2 := UInt8.toNat_lt (s[2 * k + 1]'i2)
        have C1 := Lib.hid c1
        have C2 := Lib.hid c2
        clear c1 c2
        by_cases g1 : 0 ≤ digV (chB x (2 * k))
        · by_cases g2 : 0 ≤ digV (chB x (2 * k + 1))
          · obtain ⟨p, hp⟩ := Int.eq_ofNat_of_zero_le g1
            obtain ⟨q, hq⟩ := Int.eq_ofNat_of_zero_le g2
            have hp15 : p ≤ 15 := by have := digV_le (chB x (2 * k)); omega
            have hq15 : q ≤ 15 := by have := digV_le (chB x (2 * k + 1)); omega
            have HP := Lib.hid hp
            have HQ := Lib.hid hq
            rw [← C1.out] at hp
            rw [← C2.out] at hq
            clear g1 g2
            have j1 : 2 * (k : Int) < (s.size : Int) := by omega
            have j2 : 2 * (k : Int) + 1 < (s.size : Int) := by omega
            have j3 : 0 ≤ 2 * (k : Int) := by omega
            have j4 : 0 ≤ 2 * (k : Int) + 1 := by omega
            go_wp2
            go_quiet ((go_at_call 54; exact Calls.quiet_of_same (ref_digit _ (by omega) (by omega) _)))
            go_wp2_with (at_builtin; refine wpList_append_own _ rfl _ _ 26 rfl w.heap.size 5 i0 (.int .u8 0) 1 1 Try.underlying26 hi hz0 hz1 hz2 rfl (by decide) _ _ _ rfl ((ownsRow_drewN hown nq).alloc _) ⟨wr.heap.size, 0, none⟩ 1 1 [.int .u8 (16 * (p : Int) + q)] rfl rfl (news_of_one _ _ _) (by simp [Value.oneCell']) (by unfold maxLen; omega) (by omega) (by have := hb.size; simp; omega) ?_; intro v' w1 hown' hgrow _)
            have hb' := ((below_dn hb nq).alloc hb.size (.cells #[.int .u8 (16 * (p : Int) + q)] 5)).grown hgrow (by have := hb.size; simp; omega) (fun g hg => (hown.lt g hg).1)
            have ho := hown'
            rw [un_news HP.out HQ.out hp15 hq15] at ho
            have hG := un_good HG.out (HP.out ▸ Int.natCast_nonneg p) (HQ.out ▸ Int.natCast_nonneg q)
            have HG' := Lib.hid hG
            clear hown' hgrow hown hb hG
            go_wp2
            go_roundw
            case rel => exact ⟨k + 1, by omega, by go_num, ho, hb', HG'.out⟩
            case measure => simp [intOf]; omega
          · have hf := un_fail hb rfl (unOk_bad (x := x) (k := k) (by have := hxl.out; omega) (by unfold okAt; rw [Bool.and_eq_false_iff]; right; exact decide_eq_false g2))
            have HF := Lib.hid hf
            obtain ⟨p, hp⟩ := Int.eq_ofNat_of_zero_le g1
            rw [← C1.out] at hp
            have g2' : digV ((s[2 * k + 1]'i2).toNat : Int) < 0 := by rw [C2.out]; omega
            have j1 : 2 * (k : Int) < (s.size : Int) := by omega
            have j2 : 2 * (k : Int) + 1 < (s.size : Int) := by omega
            have j3 : 0 ≤ 2 * (k : Int) := by omega
            have j4 : 0 ≤ 2 * (k : Int) + 1 := by omega
            have d1 : decide (((p : Nat) : Int) < 0) = false := by simp
            clear hf g1 g2 hown
            go_wp2
            go_quiet ((go_at_call 54; exact Calls.quiet_of_same (ref_digit _ (by omega) (by omega) _)))
            go_wp2
            go_ret2
            exact HF.out.drewN nq
        · have hf := un_fail hb rfl (unOk_bad (x := x) (k := k) (by have := hxl.out; omega) (by unfold okAt; rw [Bool.and_eq_false_iff]; left; exact decide_eq_false g1))
          have HF := Lib.hid hf
          have g1' : digV ((s[2 * k]'i1).toNat : Int) < 0 := by rw [C1.out]; omega
          have j1 : 2 * (k : Int) < (s.size : Int) := by omega
          have j2 : 2 * (k : Int) + 1 < (s.size : Int) := by omega
          have j3 : 0 ≤ 2 * (k : Int) := by omega
          have j4 : 0 ≤ 2 * (k : Int) + 1 := by omega
          clear hf g1 hown
          go_wp2
          go_quiet ((go_at_call 54; exact Calls.quiet_of_same (ref_digit _ (by omega) (by omega) _)))
          go_wp2
          go_ret2
          exact HF.out.drewN nq
      · obtain rfl : k = n := by omega
        have ok := unOk_good (x := x) (by have := hxl.out; omega) (by have := hxl.out; omega) HG.out
        have hd := un_end hown hb ok hxl.out
        have HD := Lib.hid hd
        have hsz : ¬ (2 * (k : Int) < (s.size : Int)) := by omega
        clear hd ok hown
        go_wp2
        go_ret2
        exact HD.out
  · have hf := un_fail (Below.refl w.heap.size w) rfl (unOk_odd (x := x) (by rw [← HL.out]; exact hp))
    have HF := Lib.hid hf
    have hp1 : (s.size : Int) % 2 = 1 := by omega
    clear hf hp
    go_enter Try.func27, Try.ntmps27
    go_wp2
    go_ret2
    exact HF.out

end Go.Proofs.Ytddobbigpoplpaa
