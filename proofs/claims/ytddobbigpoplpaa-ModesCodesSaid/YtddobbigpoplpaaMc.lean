/-
  What is proved here: what the program's masked, code, Code and Check answer, for bytes that lie in memory.
-/
import Derived.Test.YtddobbigpoplpaaMs
namespace Go.Proofs.Ytddobbigpoplpaa
open Go.RowKit Go.Shelf
set_option linter.unusedVariables false
attribute [local go_sem] Oper.semAt_some

/-- the last sixteen bytes combined with a mask -/
def tailX (l m : List UInt8) : List UInt8 := l.take (l.length - 16) ++ xor16 (l.drop (l.length - 16)) m
theorem tailX_length {l m : List UInt8} (h : 16 ≤ l.length) : (tailX l m).length = l.length := by
  rw [tailX, List.length_append, List.length_take, xor16_length]
  omega
/-- the bytes whose last encrypted block is the code -/
def mskL (b k1 : List UInt8) : List UInt8 := if b.length ≠ 0 ∧ b.length % 16 = 0 then tailX b k1 else tailX (padM b) (dblL k1)
theorem mskL_whole (b k1 : List UInt8) : (mskL b k1).length % 16 = 0 ∧ 16 ≤ (mskL b k1).length ∧ (mskL b k1).length ≤ b.length + 16 := by
  unfold mskL
  split
  · rename_i h
    rw [tailX_length (by omega)]
    omega
  · rw [tailX_length (padM_pos b)]
    have h1 := padM_whole b
    have h2 := padM_pos b
    have h3 := padM_length b
    omega
theorem RowB.tail {w : World} {g : Nat} {l : List UInt8} (h : RowB w g l) (h16 : 16 ≤ l.length) : SeesP w (· < w.heap.size) (some ⟨g, l.length - 16, none⟩) (Us (l.drop (l.length - 16))) := .inr ⟨g, l.length - 16, rfl, h.lt, fun j hj => by
  rw [Us_length, List.length_drop] at hj
  rw [h.cell (by omega), Us_get (by rw [List.length_drop]; omega)]
  congr 2
  rw [List.getElem_drop, getD_b (by omega)]⟩
/-- a copy onto the last sixteen bytes of a row -/
theorem wpList_copy_tail {P : Program} {w : World} {ops : Array Oper} {rest : List Oper} {o : Oper} {a : Act} {Q : Exit → Act → World → Prop} (hgd : o.guard = none) (d s : Operand) (dT sT : TypeId)
    (ho : o.op = .call { callee := .builtin .copy, args := #[d, s], argTypes := #[dT, sT] }) (elem : TypeId) (hu : P.underlying dT = some (.slice elem)) (hsz : (P.info? elem).map (·.size) = some 1)
    (g gs n cap : Nat) (l m : List UInt8) (hl : n + 16 = l.length) (hm : m.length = 16) (hd : a.eval d = .slice (some ⟨g, n, none⟩) 16 cap) (hs : a.eval s = .slice (some ⟨gs, 0, none⟩) 16 16) (hg : RowB w g l) (hgs : RowB w gs m)
    (hK : ∀ w', Wr w w' g → RowB w' g (l.take n ++ m) → wpList P ops Q rest (a.put o.dst (goInt (Us m).length)) w') : wpList P ops Q (o :: rest) a w := by
  obtain ⟨t, hg⟩ := hg
  refine wpList_copy_own hgd d s dT sT ho elem hu hsz g n 16 cap ⟨gs, 0, none⟩ 16 16 hd hs (Us l).toArray t hg (Us m) (by rw [Us_length, hm]; rfl) (news16 hgs) (by simp [Us_length]; omega) (Us_one m) ?_
  refine hK _ (Wr.row _ _ _) ⟨t, ?_⟩
  rw [setRow_heap w g _ _ t (0, 0) hg, Us_length]
  congr 2
  have e : (Us l).drop (n + m.length) = [] := List.drop_eq_nil_of_le (by rw [Us_length]; omega)
  simp [Us_append, Us_take, e]

theorem pad_m {l p : List UInt8} {A : Option Addr} {n k c : Nat} {w : World} (hn : l.length = n) (hp : padM l = p) (hk : p.length = k) (hl : n ≤ 140737488351300) (hs : SeesP w (· < w.heap.size) A (Us l)) :
    Calls Try.prog 34 #[.slice A n c] w fun e w' => ∃ g, e = .returned (.slice (some ⟨g, 0, none⟩) k k) ∧ w.heap.size ≤ g ∧ RowB w' g p ∧ Below w.heap.size w w' := by
  subst hn hp hk
  exact modes_pad l A c w hl hs
theorem SeesP.up {w w' : World} {A : Option Addr} {cs : List Value} (h : SeesP w (· < w.heap.size) A cs) (hb : Below w.heap.size w w') : SeesP w' (· < w'.heap.size) A cs :=
  (h.keep fun q hq => hb.cell hq).imp fun q hq => Nat.lt_of_lt_of_le hq hb.size
set_option maxHeartbeats 1000000 in
theorem prog_masked (b k1 : List UInt8) (A1 A2 : Option Addr) (c1 c2 : Nat) (w : World) (hk : k1.length = 16) (hl : b.length ≤ 140737488351280) (h1 : SeesP w (· < w.heap.size) A1 (Us b)) (h2 : SeesP w (· < w.heap.size) A2 (Us k1)) :
    Calls Try.prog 76 #[.slice A1 b.length c1, .slice A2 16 c2] w (MkR w (mskL b k1)) := by
  obtain ⟨i0, hi, hz0, hz1, hz2⟩ := info_parts info_u8p
  have HS := Lib.hid (show _ ∧ _ ∧ _ from ⟨hk, h1, h2⟩)
  obtain ⟨N, hN⟩ : ∃ N, N = b.length := ⟨_, rfl⟩
  rw [← hN] at hl ⊢
  have HN := Lib.hid (show b.length = N from hN.symm)
  have hl2 : N ≤ 140737488351300 := by omega
  clear hk h1 h2
  by_cases hw : N ≠ 0 ∧ N % 16 = 0
  · have d0 : ((N : Int) == 0) = false := by rw [beq_eq_false_iff_ne]; omega
    have d16 : decide (N % 16 = 0) = true := decide_eq_true hw.2
    have HM := Lib.hid (show mskL b k1 = b.take (N - 16) ++ xor16 (b.drop (N - 16)) k1 ∧ (b.drop (N - 16)).length = 16 from by
      refine ⟨?_, by rw [List.length_drop, HN.out]; omega⟩
      unfold mskL tailX
      rw [HN.out, if_pos hw])
    have h16 : 16 ≤ N := by omega
    have HML := Lib.hid (show (mskL b k1).length = N by rw [HM.out.1, List.length_append, xor16_length, List.length_take, HN.out]; omega)
    have e1 : (N : Int) - 16 = ((N - 16 : Nat) : Int) := by omega
    obtain ⟨n, hn⟩ : ∃ n, n = N - 16 := ⟨_, rfl⟩
    have e2 : (N : Int) - 16 = (n : Int) := by omega
    have hne : ¬ N = n := by omega
    have hnN : n ≤ N := by omega
    have hnI : (n : Int) ≤ (N : Int) := by omega
    have es : N - n = 16 := by omega
    have HNn := Lib.hid (show n = N - 16 ∧ n + 16 = b.length from ⟨hn, by rw [HN.out]; omega⟩)
    clear hN hw e1 hn
    go_enter Try.func76, Try.ntmps76
    go_wp2_with (first
      | (at_make; refine wpList_make_full _ rfl _ _ 26 rfl w.heap.size 5 i0 (.int .u8 0) 1 Try.underlying26 hi hz0 hz1 _ _ _ _ N rfl rfl rfl rfl (by rw [hz2]; omega) (by unfold maxLen; omega) (Nat.le_refl _) ?_; intro w1 hown hgrow; have M1 := Lib.hid (show w1.ownsRow w.heap.size 5 1 (.slice (some ⟨w.heap.size, 0, none⟩) N N) N (Us (List.replicate N 0)) ∧ Below w.heap.size w w1 from ⟨by rw [Us_zeros]; simpa [Value.cells, toList_madeCells_one] using hown, (Below.refl _ _).grown hgrow (Nat.le_refl _) (fun k e => by cases e)⟩); clear hown hgrow)
      | (with_reducible refine wpList_copy_fill rfl (.tmp 11) (.tmp 12) 26 26 rfl 5 Try.underlying26 info_one w.heap.size w.heap.size N N _ rfl M1.out.1 A1 N c1 w.heap.size (Us b) rfl (by rw [Us_length, HN.out]) (SeesP.iff_sees.1 (HS.out.2.1.keep fun q hq => M1.out.2.cell hq)) (Us_one b) ?_; intro w2 hown2 hg2; rw [show (Us b).take N ++ (Us (List.replicate N 0)).drop (Us b).length = Us b from by rw [List.drop_eq_nil_of_le (by rw [Us_length, Us_length, HN.out]; simp), List.append_nil, List.take_of_length_le (by rw [Us_length, HN.out]; exact Nat.le_refl _)]] at hown2; have M2 := Lib.hid (show RowB w2 w.heap.size b ∧ Below w.heap.size w w2 from ⟨(row_of_own hown2).1, M1.out.2.grown hg2 M1.out.2.size (fun k e => by cases e; exact Nat.le_refl _)⟩); clear hown2 hg2)
      | (go_at_call 55; (with_reducible refine (prog_whole _ _ _ _).mono ?_); rintro e w3 ⟨rfl, rfl⟩; rw [d16])
      | (go_at_call 75; have hs1 : SeesP w2 (· < w2.heap.size) (some ⟨w.heap.size, n, none⟩) (Us (b.drop n)) := (by have h := M2.out.1.tail (by rw [HN.out]; omega); rw [HN.out, ← HNn.out.1] at h; exact h); have hs2 := (HS.out.2.2.keep fun q hq => M2.out.2.cell hq).imp (p' := (· < w2.heap.size)) fun q hq => Nat.lt_of_lt_of_le hq M2.out.2.size; (refine (prog_combine (b.drop n) k1 _ _ _ _ _ _ _ (by rw [HNn.out.1]; exact HM.out.2) HS.out.1 (by omega) (by omega) hs1 hs2).mono ?_); rintro e w4 ⟨g4, rfl, hg4, hr4, hb4⟩; have M4 := Lib.hid (show RowB w4 w.heap.size b ∧ RowB w4 g4 (xor16 (b.drop n) k1) ∧ Below w.heap.size w w4 from ⟨M2.out.1.on hb4, hr4, below_on M2.out.2 hb4⟩); clear hg4 hr4 hb4 hs1 hs2)
      | (with_reducible refine wpList_copy_tail rfl (.tmp 32) (.tmp 35) 26 26 rfl 5 Try.underlying26 info_one w.heap.size g4 n 16 b (xor16 (b.drop n) k1) HNn.out.2 (xor16_length _ _) rfl rfl M4.out.1 M4.out.2.1 ?_; intro w7 hw7 hr7; have M7 := Lib.hid (show RowB w7 w.heap.size (mskL b k1) ∧ Below w.heap.size w w7 from ⟨by rw [HM.out.1, ← HNn.out.1]; exact hr7, hw7.bl M4.out.2.2 (Nat.le_refl _)⟩); clear hw7 hr7))
    go_ret
    exact ⟨w.heap.size, by rw [HML.out]; rfl, Nat.le_refl _, M7.out⟩
  · obtain ⟨P, hP⟩ : ∃ P, P = padM b := ⟨_, rfl⟩
    obtain ⟨K, hK⟩ : ∃ K, K = P.length := ⟨_, rfl⟩
    have HP := Lib.hid (show padM b = P from hP.symm)
    have HPK := Lib.hid (show P.length = K from hK.symm)
    have h16 : 16 ≤ K := by rw [hK, hP]; exact padM_pos b
    have HM := Lib.hid (show mskL b k1 = P.take (K - 16) ++ xor16 (P.drop (K - 16)) (dblL k1) from by
      unfold mskL tailX
      rw [HN.out, if_neg hw, ← hP, ← hK])
    have hKs : K ≤ 140737488351320 := by rw [hK, hP, padM_length, HN.out]; omega
    have HML := Lib.hid (show (mskL b k1).length = K by rw [HM.out, List.length_append, xor16_length, List.length_take, HPK.out]; omega)
    obtain ⟨n, hn⟩ : ∃ n, n = K - 16 := ⟨_, rfl⟩
    have e2 : (K : Int) - 16 = (n : Int) := by omega
    have hne : ¬ K = n := by omega
    have hnN : n ≤ K := by omega
    have hnI : (n : Int) ≤ (K : Int) := by omega
    have es : K - n = 16 := by omega
    have HNn := Lib.hid (show n = K - 16 ∧ n + 16 = P.length ∧ (P.drop n).length = 16 from ⟨hn, by rw [HPK.out]; omega, by rw [List.length_drop, HPK.out]; omega⟩)
    clear hN hn hP hK
    by_cases h0 : N = 0
    · clear hw
      subst h0
      go_enter Try.func76, Try.ntmps76
      go_wp2_with (first
        | (at_make; refine wpList_make_full _ rfl _ _ 26 rfl w.heap.size 5 i0 (.int .u8 0) 1 Try.underlying26 hi hz0 hz1 _ _ _ _ 0 rfl rfl rfl rfl (by rw [hz2]; omega) (by unfold maxLen; omega) (Nat.le_refl _) ?_; intro w1 hown hgrow; have M1 := Lib.hid (show w1.ownsRow w.heap.size 5 1 (.slice (some ⟨w.heap.size, 0, none⟩) 0 0) 0 (Us (List.replicate 0 0)) ∧ Below w.heap.size w w1 from ⟨by rw [Us_zeros]; simpa [Value.cells, toList_madeCells_one] using hown, (Below.refl _ _).grown hgrow (Nat.le_refl _) (fun k e => by cases e)⟩); clear hown hgrow)
        | (with_reducible refine wpList_copy_fill rfl (.tmp 11) (.tmp 12) 26 26 rfl 5 Try.underlying26 info_one w.heap.size w.heap.size 0 0 _ rfl M1.out.1 A1 0 c1 w.heap.size (Us b) rfl (by rw [Us_length, HN.out]) (SeesP.iff_sees.1 (HS.out.2.1.keep fun q hq => M1.out.2.cell hq)) (Us_one b) ?_; intro w2 hown2 hg2; rw [show (Us b).take 0 ++ (Us (List.replicate 0 0)).drop (Us b).length = Us b from by rw [List.drop_eq_nil_of_le (by rw [Us_length, Us_length, HN.out]; simp), List.append_nil, List.take_of_length_le (by rw [Us_length, HN.out]; exact Nat.le_refl _)]] at hown2; have M2 := Lib.hid (show RowB w2 w.heap.size b ∧ Below w.heap.size w w2 from ⟨(row_of_own hown2).1, M1.out.2.grown hg2 M1.out.2.size (fun k e => by cases e; exact Nat.le_refl _)⟩); clear hown2 hg2)
        | (go_at_call 34; have hs1 := (HS.out.2.1.keep fun q hq => M2.out.2.cell hq).imp (p' := (· < w2.heap.size)) fun q hq => Nat.lt_of_lt_of_le hq M2.out.2.size; (refine (pad_m (l := b) (p := P) HN.out HP.out HPK.out hl2 hs1).mono ?_); rintro e w3 ⟨gp, rfl, hgp, hr3, hb3⟩; have M3 := Lib.hid (show RowB w3 gp P ∧ Below w.heap.size w w3 ∧ w.heap.size ≤ gp from ⟨hr3, below_on M2.out.2 hb3, Nat.le_trans M2.out.2.size hgp⟩); clear hgp hr3 hb3 hs1)
        | (go_at_call 77; have hs1 := (HS.out.2.2.keep fun q hq => M3.out.2.1.cell hq).imp (p' := (· < w3.heap.size)) fun q hq => Nat.lt_of_lt_of_le hq M3.out.2.1.size; (refine (prog_double k1 _ _ _ HS.out.1 hs1).mono ?_); rintro e w4 ⟨g4, rfl, hg4, hr4, hb4⟩; have M4 := Lib.hid (show RowB w4 gp P ∧ RowB w4 g4 (dblL k1) ∧ Below w.heap.size w w4 from ⟨M3.out.1.on hb4, hr4, below_on M3.out.2.1 hb4⟩); clear hg4 hr4 hb4 hs1)
        | (go_at_call 75; have hs1 : SeesP w4 (· < w4.heap.size) (some ⟨gp, n, none⟩) (Us (P.drop n)) := (by have h := M4.out.1.tail (by rw [HPK.out]; omega); rw [HPK.out, ← HNn.out.1] at h; exact h); have hs2 := M4.out.2.1.sees (· < w4.heap.size) M4.out.2.1.lt; (refine (prog_combine (P.drop n) (dblL k1) _ _ _ _ _ _ _ HNn.out.2.2 (dblL_length k1) (by omega) (by omega) hs1 hs2).mono ?_); rintro e w5 ⟨g5, rfl, hg5, hr5, hb5⟩; have M5 := Lib.hid (show RowB w5 gp P ∧ RowB w5 g5 (xor16 (P.drop n) (dblL k1)) ∧ Below w.heap.size w w5 from ⟨M4.out.1.on hb5, hr5, below_on M4.out.2.2 hb5⟩); clear hg5 hr5 hb5 hs1 hs2)
        | (with_reducible refine wpList_copy_tail rfl (.tmp 32) (.tmp 35) 26 26 rfl 5 Try.underlying26 info_one gp g5 n 16 P (xor16 (P.drop n) (dblL k1)) HNn.out.2.1 (xor16_length _ _) rfl rfl M5.out.1 M5.out.2.1 ?_; intro w7 hw7 hr7; have M7 := Lib.hid (show RowB w7 gp (mskL b k1) ∧ Below w.heap.size w w7 from ⟨by rw [HM.out, ← HNn.out.1]; exact hr7, hw7.bl M5.out.2.2 M3.out.2.2⟩); clear hw7 hr7))
      go_ret
      exact ⟨gp, by rw [HML.out]; rfl, M3.out.2.2, M7.out⟩
    · have d0 : ((N : Int) == 0) = false := by rw [beq_eq_false_iff_ne]; omega
      have d16 : decide (N % 16 = 0) = false := decide_eq_false (by omega)
      clear hw
      go_enter Try.func76, Try.ntmps76
      go_wp2_with (first
        | (at_make; refine wpList_make_full _ rfl _ _ 26 rfl w.heap.size 5 i0 (.int .u8 0) 1 Try.underlying26 hi hz0 hz1 _ _ _ _ N rfl rfl rfl rfl (by rw [hz2]; omega) (by unfold maxLen; omega) (Nat.le_refl _) ?_; intro w1 hown hgrow; have M1 := Lib.hid (show w1.ownsRow w.heap.size 5 1 (.slice (some ⟨w.heap.size, 0, none⟩) N N) N (Us (List.replicate N 0)) ∧ Below w.heap.size w w1 from ⟨by rw [Us_zeros]; simpa [Value.cells, toList_madeCells_one] using hown, (Below.refl _ _).grown hgrow (Nat.le_refl _) (fun k e => by cases e)⟩); clear hown hgrow)
        | (with_reducible refine wpList_copy_fill rfl (.tmp 11) (.tmp 12) 26 26 rfl 5 Try.underlying26 info_one w.heap.size w.heap.size N N _ rfl M1.out.1 A1 N c1 w.heap.size (Us b) rfl (by rw [Us_length, HN.out]) (SeesP.iff_sees.1 (HS.out.2.1.keep fun q hq => M1.out.2.cell hq)) (Us_one b) ?_; intro w2 hown2 hg2; rw [show (Us b).take N ++ (Us (List.replicate N 0)).drop (Us b).length = Us b from by rw [List.drop_eq_nil_of_le (by rw [Us_length, Us_length, HN.out]; simp), List.append_nil, List.take_of_length_le (by rw [Us_length, HN.out]; exact Nat.le_refl _)]] at hown2; have M2 := Lib.hid (show RowB w2 w.heap.size b ∧ Below w.heap.size w w2 from ⟨(row_of_own hown2).1, M1.out.2.grown hg2 M1.out.2.size (fun k e => by cases e; exact Nat.le_refl _)⟩); clear hown2 hg2)
        | (go_at_call 55; (with_reducible refine (prog_whole _ _ _ _).mono ?_); rintro e w3 ⟨rfl, rfl⟩; rw [d16])
        | (go_at_call 34; have hs1 := (HS.out.2.1.keep fun q hq => M2.out.2.cell hq).imp (p' := (· < w2.heap.size)) fun q hq => Nat.lt_of_lt_of_le hq M2.out.2.size; (refine (pad_m (l := b) (p := P) HN.out HP.out HPK.out hl2 hs1).mono ?_); rintro e w3 ⟨gp, rfl, hgp, hr3, hb3⟩; have M3 := Lib.hid (show RowB w3 gp P ∧ Below w.heap.size w w3 ∧ w.heap.size ≤ gp from ⟨hr3, below_on M2.out.2 hb3, Nat.le_trans M2.out.2.size hgp⟩); clear hgp hr3 hb3 hs1)
        | (go_at_call 77; have hs1 := (HS.out.2.2.keep fun q hq => M3.out.2.1.cell hq).imp (p' := (· < w3.heap.size)) fun q hq => Nat.lt_of_lt_of_le hq M3.out.2.1.size; (refine (prog_double k1 _ _ _ HS.out.1 hs1).mono ?_); rintro e w4 ⟨g4, rfl, hg4, hr4, hb4⟩; have M4 := Lib.hid (show RowB w4 gp P ∧ RowB w4 g4 (dblL k1) ∧ Below w.heap.size w w4 from ⟨M3.out.1.on hb4, hr4, below_on M3.out.2.1 hb4⟩); clear hg4 hr4 hb4 hs1)
        | (go_at_call 75; have hs1 : SeesP w4 (· < w4.heap.size) (some ⟨gp, n, none⟩) (Us (P.drop n)) := (by have h := M4.out.1.tail (by rw [HPK.out]; omega); rw [HPK.out, ← HNn.out.1] at h; exact h); have hs2 := M4.out.2.1.sees (· < w4.heap.size) M4.out.2.1.lt; (refine (prog_combine (P.drop n) (dblL k1) _ _ _ _ _ _ _ HNn.out.2.2 (dblL_length k1) (by omega) (by omega) hs1 hs2).mono ?_); rintro e w5 ⟨g5, rfl, hg5, hr5, hb5⟩; have M5 := Lib.hid (show RowB w5 gp P ∧ RowB w5 g5 (xor16 (P.drop n) (dblL k1)) ∧ Below w.heap.size w w5 from ⟨M4.out.1.on hb5, hr5, below_on M4.out.2.2 hb5⟩); clear hg5 hr5 hb5 hs1 hs2)
        | (with_reducible refine wpList_copy_tail rfl (.tmp 32) (.tmp 35) 26 26 rfl 5 Try.underlying26 info_one gp g5 n 16 P (xor16 (P.drop n) (dblL k1)) HNn.out.2.1 (xor16_length _ _) rfl rfl M5.out.1 M5.out.2.1 ?_; intro w7 hw7 hr7; have M7 := Lib.hid (show RowB w7 gp (mskL b k1) ∧ Below w.heap.size w w7 from ⟨by rw [HM.out, ← HNn.out.1]; exact hr7, hw7.bl M5.out.2.2 M3.out.2.2⟩); clear hw7 hr7))
      go_ret
      exact ⟨gp, by rw [HML.out]; rfl, M3.out.2.2, M7.out⟩

end Go.Proofs.Ytddobbigpoplpaa
