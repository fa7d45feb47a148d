/-
  What is proved here: what the program's Pad, unpadded, Unpad and double answer, for bytes that lie in memory.
-/
import Derived.Test.YtipkaeeimohmpaaMb
import Derived.Test.YtipkaeeimohmpaaLists
import Derived.Laws.OwnMore
namespace Go.Proofs.Ytipkaeeimohmpaa
open Go.RowKit
set_option linter.unusedVariables false

/-- bytes with their padding -/
def padM (l : List UInt8) : List UInt8 := l ++ [128] ++ List.replicate (15 - l.length % 16) 0
theorem padM_length (l : List UInt8) : (padM l).length = (l.length / 16 + 1) * 16 := by simp [padM]; omega
theorem padM_whole (l : List UInt8) : (padM l).length % 16 = 0 := by rw [padM_length]; omega
theorem padM_pos (l : List UInt8) : 16 ≤ (padM l).length := by rw [padM_length]; omega
/-- a call that hands back bytes that fill a block of its own -/
def MkR (w : World) (l : List UInt8) (e : Ending) (w' : World) : Prop := ∃ g, e = .returned (.slice (some ⟨g, 0, none⟩) l.length l.length) ∧ w.heap.size ≤ g ∧ RowB w' g l ∧ Below w.heap.size w w'
theorem row_of_own {w : World} {base g n : Nat} {e : TypeId} {l : List UInt8} (h : w.ownsRow base e 1 (.slice (some ⟨g, 0, none⟩) n n) n (Us l)) : RowB w g l ∧ base ≤ g := by
  obtain ⟨hl, h⟩ := h
  rcases h with ⟨h1, _⟩ | ⟨g2, cap, cur, h1, h2, h3, h4, h5, h6, h7⟩
  · cases h1
  · injection h1 with e1 _ e2
    injection e1 with e1
    injection e1 with e1
    subst e1 e2
    refine ⟨⟨e, ?_⟩, h2⟩
    rw [h3]
    congr 2
    apply Array.ext'
    rw [← h7]
    simp only [Nat.mul_one] at h6 ⊢
    rw [List.take_of_length_le (by simp; omega)]
theorem pad_copy16 (l : List UInt8) (S : Nat) (h : S = (l.length / 16 + 1) * 16) : (Us l).take S ++ (Us (List.replicate S 0)).drop (Us l).length = Us (l ++ List.replicate (16 - l.length % 16) 0) := by
  rw [← Us_take, Us_length, ← Us_drop, ← Us_append, List.take_of_length_le (by omega), List.drop_replicate, show S - l.length = 16 - l.length % 16 by omega]
theorem pad_mark16 (l : List UInt8) : (l ++ List.replicate (16 - l.length % 16) 0).set l.length 128 = padM l := by
  rw [List.set_append_right _ _ (Nat.le_refl _), Nat.sub_self, show 16 - l.length % 16 = (15 - l.length % 16) + 1 by omega, List.replicate_succ, List.set_cons_zero]
  simp [padM]
theorem info_one : (Try.prog.info? 5).map (·.size) = some 1 := by kernel_rfl
set_option maxHeartbeats 1000000 in
theorem modes_pad (l : List UInt8) (A : Option Addr) (c : Nat) (w : World) (hl : l.length ≤ 140737488351300) (hs : SeesP w (· < w.heap.size) A (Us l)) :
    Calls Try.prog 14 #[.slice A l.length c] w (MkR w (padM l)) := by
  obtain ⟨i0, hi, hz0, hz1, hz2⟩ := info_parts info_u8p
  obtain ⟨S, hS⟩ : ∃ S, S = (l.length / 16 + 1) * 16 := ⟨_, rfl⟩
  have e1 : (S : Int) = ((l.length : Int) / 16 + 1) * 16 := by omega
  have HS := Lib.hid (show SeesP w (· < w.heap.size) A (Us l) ∧ S = (l.length / 16 + 1) * 16 ∧ (S : Int) = ((l.length : Int) / 16 + 1) * 16 from ⟨hs, hS, e1⟩)
  have hS1 : S ≤ l.length + 16 := by omega
  have hS2 : l.length + 1 ≤ S := by omega
  clear hs hS e1
  go_enter Try.func14, Try.ntmps14
  go_wp2_with (first
    | (at_make; refine wpList_make_full _ rfl _ _ 22 rfl w.heap.size 5 i0 (.int .u8 0) 1 Try.underlying22 hi hz0 hz1 _ _ _ _ S rfl rfl HS.out.2.2.symm HS.out.2.2.symm (by rw [hz2]; omega) (by unfold maxLen; omega) (Nat.le_refl _) ?_; intro w1 hown hgrow; rw [← HS.out.2.2]; have M1 := Lib.hid (show w1.ownsRow w.heap.size 5 1 (.slice (some ⟨w.heap.size, 0, none⟩) S S) S (Us (List.replicate S 0)) ∧ w.grownBy w1 none from ⟨by rw [Us_zeros]; simpa [Value.cells, toList_madeCells_one] using hown, hgrow⟩); clear hown hgrow)
    | (with_reducible refine wpList_copy_fill rfl (.tmp 10) (.tmp 11) 22 22 rfl 5 Try.underlying22 info_one w.heap.size w.heap.size S S _ rfl M1.out.1 A l.length c w.heap.size (Us l) rfl (Us_length l) (SeesP.iff_sees.1 (HS.out.1.keep fun q hq => ((Below.refl _ _).grown M1.out.2 (Nat.le_refl _) (fun k e => by cases e)).cell hq)) (Us_one l) ?_; intro w2 hown2 hg2; rw [pad_copy16 l S HS.out.2.1] at hown2; have M2 := Lib.hid (show w2.ownsRow w.heap.size 5 1 (.slice (some ⟨w.heap.size, 0, none⟩) S S) S (Us (l ++ List.replicate (16 - l.length % 16) 0)) ∧ Below w.heap.size w w2 from ⟨hown2, ((Below.refl _ _).grown M1.out.2 (Nat.le_refl _) (fun k e => by cases e)).grown hg2 M1.out.2.size (fun k e => by cases e; exact Nat.le_refl _)⟩); clear hown2 hg2; have y1 : ∃ u, w2.cell? ⟨w.heap.size, l.length, none⟩ = some u := (by rw [M2.out.1.cellAt l.length (by omega)]; exact ⟨_, List.getElem?_eq_getElem (by rw [Us_length, List.length_append, List.length_replicate]; omega)⟩); obtain ⟨u1, y1⟩ := y1; have y2 := M2.out.1.frozenAt l.length))
  have M3 := Lib.hid (show MkR w (padM l) (.returned (.slice (some ⟨w.heap.size, 0, none⟩) S S)) (w2.setCell ⟨w.heap.size, l.length, none⟩ (.int .u8 128)) from by
    obtain ⟨h1, h2⟩ := M2.out
    have h3 := (h1.stored l.length (U 128)).1
    rw [Us_set, pad_mark16] at h3
    refine ⟨w.heap.size, ?_, Nat.le_refl _, (row_of_own h3).1, h2.setCell (p := ⟨w.heap.size, _, none⟩) (Nat.le_refl _) _⟩
    rw [padM_length, ← HS.out.2.1])
  clear M1 M2 y1 y2
  go_ret
  exact M3.out

/-- where the padding begins, looking at f bytes from place n on down -/
def upN (l : List UInt8) : Nat → Nat → Option Nat
  | 0, _ => none
  | f + 1, n => if l.getD n 0 = 128 then some n else if l.getD n 0 = 0 then upN l f (n - 1) else none
theorem upN_le (l : List UInt8) : ∀ f n m, upN l f n = some m → m ≤ n
  | 0, _, _, h => by cases h
  | f + 1, n, m, h => by
    unfold upN at h
    split at h
    · injection h with h; omega
    · split at h
      · have := upN_le l f _ _ h; omega
      · cases h
/-- what unpadded answers -/
def upV (l : List UInt8) : Value := match upN l 16 (l.length - 1) with
  | some n => .tuple #[.int .i64 (n : Int), .bool true]
  | none => .tuple #[.int .i64 0, .bool false]
set_option maxHeartbeats 1000000 in
theorem prog_unpadded (l : List UInt8) (A : Option Addr) (c : Nat) (w : World) (h0 : 16 ≤ l.length) (hl : l.length ≤ 140737488351300) (hs : SeesP w (· < w.heap.size) A (Us l)) :
    Calls Try.prog 27 #[.slice A l.length c] w fun e w' => e = .returned (upV l) ∧ Below w.heap.size w w' := by
  obtain ⟨b, o, rfl, hb, hc⟩ := seen_addr hs (by omega)
  have HC := Lib.hid hc
  obtain ⟨N, hN⟩ : ∃ N, N = l.length := ⟨_, rfl⟩
  have HV := Lib.hid (show ∀ v, upV l = v → upV l = v from fun _ h => h)
  clear hc hs
  rw [← hN]
  have h16 : 16 ≤ N := by omega
  have hN2 : N ≤ 140737488351300 := by omega
  have HN := Lib.hid hN
  clear hN h0 hl
  go_enter Try.func27, Try.ntmps27
  go_wp2
  go_loopw [6] (fun i wr => ∃ k : Nat, k ≤ 16 ∧ i = .int .i64 (k : Int) ∧ Hid (upN l 16 (l.length - 1) = upN l (16 - k) (N - 1 - k)) ∧ Hid (Below w.heap.size w wr)) (fun i _ => 16 - (intOf i).toNat)
  case atStart => exact ⟨0, by decide, rfl, Lib.hid (by rw [HN.out]; rfl), Lib.hid (Below.refl _ _)⟩
  case round =>
    obtain ⟨k, hk, rfl, HU, HB⟩ := hrel
    by_cases hlt : k < 16
    · obtain ⟨m, hm⟩ : ∃ m, m = N - 1 - k := ⟨_, rfl⟩
      have e1 : (N : Int) - 1 - (k : Int) = (m : Int) := by omega
      have y1 := (HB.out.cell (p := ⟨b, o + m, none⟩) hb).trans (HC.out m (by have := HN.out; omega))
      obtain ⟨v, hv⟩ : ∃ v, v = l.getD m 0 := ⟨_, rfl⟩
      rw [← hv] at y1
      have i2 : (m : Int) < (N : Int) := by omega
      have e2 : IntKind.i64.wrap ((N : Int) - 1 - (k : Int)) = (m : Int) := by rw [IntKind.wrap_i64]; omega
      have HU2 := Lib.hid (show upN l 16 (l.length - 1) = if v = 128 then some m else if v = 0 then upN l (16 - (k + 1)) (N - 1 - (k + 1)) else none from by
        rw [HU.out, show 16 - k = (16 - (k + 1)) + 1 by omega, upN, ← hm, ← hv, show N - 1 - (k + 1) = m - 1 by omega])
      have HM := Lib.hid (And.intro hm hv)
      clear HU hm hv e1
      by_cases h128 : v = 128
      · have dv : ((v.toNat : Int) == 128) = true := by rw [h128]; rfl
        have HV2 := Lib.hid (show upV l = .tuple #[.int .i64 (m : Int), .bool true] from by
          have h := HU2.out
          rw [if_pos h128] at h
          simp only [upV, h])
        clear HV HU2 HC
        go_wp2
        go_ret2
        exact ⟨by rw [HV2.out]; rfl, HB.out⟩
      · have dv : ((v.toNat : Int) == 128) = false := by
          have : v.toNat ≠ 128 := fun e => h128 (UInt8.toNat.inj e)
          simp; omega
        by_cases hz : v = 0
        · have dz : ((v.toNat : Int) != 0) = false := by rw [hz]; rfl
          have HV2 := Lib.hid (show upN l 16 (l.length - 1) = upN l (16 - (k + 1)) (N - 1 - (k + 1)) from by
            have h := HU2.out
            rwa [if_neg h128, if_pos hz] at h)
          clear HV HU2 HC
          go_wp2
          go_roundw
          case rel => exact ⟨k + 1, by omega, by go_num, HV2, HB⟩
          case measure => simp [intOf]; omega
        · have dz : ((v.toNat : Int) != 0) = true := by
            have : v.toNat ≠ 0 := fun e => hz (UInt8.toNat.inj e)
            simp; omega
          have HV2 := Lib.hid (show upV l = .tuple #[.int .i64 0, .bool false] from by
            have h := HU2.out
            rw [if_neg h128, if_neg hz] at h
            simp only [upV, h])
          clear HV HU2 HC
          go_wp2
          go_ret2
          exact ⟨by rw [HV2.out]; rfl, HB.out⟩
    · obtain rfl : k = 16 := by omega
      have HV2 := Lib.hid (show upV l = .tuple #[.int .i64 0, .bool false] from by
        have h := HU.out
        have e : upN l (16 - 16) (N - 1 - 16) = none := rfl
        rw [e] at h
        simp only [upV, h])
      clear HV HU HC
      go_wp2
      go_ret2
      exact ⟨by rw [HV2.out]; rfl, HB.out⟩

/-- what Unpad answers -/
def unpB (l : List UInt8) : List UInt8 := if l.length = 0 ∨ l.length % 16 ≠ 0 then [] else match upN l 16 (l.length - 1) with
  | some n => l.take n
  | none => []
def unpE (l : List UInt8) : Int := if l.length = 0 ∨ l.length % 16 ≠ 0 then 2 else match upN l 16 (l.length - 1) with
  | some _ => 0
  | none => 9
theorem gives_none {w w' : World} {er : Int} (h : Below w.heap.size w w') : Gives w [] er (.returned (.tuple #[.slice none 0 0, .int .i64 er])) w' := ⟨none, 0, rfl, .inl rfl, h⟩
theorem copy_take (l : List UInt8) (n : Nat) (h : n ≤ l.length) : (Us l).take n ++ (Us (List.replicate n 0)).drop (Us l).length = Us (l.take n) := by
  rw [Us_length, ← Us_take, ← Us_drop, ← Us_append, List.drop_eq_nil_of_le (by simp; omega), List.append_nil]
set_option maxHeartbeats 1000000 in
theorem modes_unpad (l : List UInt8) (A : Option Addr) (c : Nat) (w : World) (hl : l.length ≤ 140737488351300) (hs : SeesP w (· < w.heap.size) A (Us l)) :
    Calls Try.prog 9 #[.slice A l.length c] w (Gives w (unpB l) (unpE l)) := by
  obtain ⟨i0, hi, hz0, hz1, hz2⟩ := info_parts info_u8p
  have HS := Lib.hid hs
  clear hs
  by_cases h0 : l.length = 0
  · have eB : unpB l = [] := by simp [unpB, h0]
    have eE : unpE l = 2 := by simp [unpE, h0]
    rw [eB, eE]
    have d0 : ((l.length : Int) == 0) = true := by rw [h0]; rfl
    go_enter Try.func9, Try.ntmps9
    go_wp2
    go_ret2
    exact gives_none (Below.refl _ _)
  · have d0 : ((l.length : Int) == 0) = false := by rw [beq_eq_false_iff_ne]; omega
    by_cases h16 : l.length % 16 = 0
    · have d16 : decide (l.length % 16 = 0) = true := decide_eq_true h16
      have hP := prog_unpadded l A c w (by omega) hl HS.out
      cases hu : upN l 16 (l.length - 1) with
      | none =>
        have eB : unpB l = [] := by simp [unpB, h0, h16, hu]
        have eE : unpE l = 9 := by simp [unpE, h0, h16, hu]
        have eV : upV l = .tuple #[.int .i64 0, .bool false] := by simp [upV, hu]
        rw [eB, eE]
        rw [eV] at hP
        have HP := Lib.hid hP
        clear hP eB eE eV hu
        go_enter Try.func9, Try.ntmps9
        go_wp2_with (first
          | (go_at_call 26; (with_reducible refine (prog_whole _ _ _ _).mono ?_); rintro e w1 ⟨rfl, rfl⟩; rw [d16])
          | (go_at_call 27; (with_reducible refine HP.out.mono ?_); rintro e w2 ⟨rfl, hb⟩; have HB := Lib.hid hb; clear hb))
        go_ret2
        exact gives_none HB.out
      | some n =>
        have hn : n ≤ l.length := by have := upN_le l _ _ _ hu; omega
        have eB : unpB l = l.take n := by simp [unpB, h0, h16, hu]
        have eE : unpE l = 0 := by simp [unpE, h0, h16, hu]
        have eV : upV l = .tuple #[.int .i64 (n : Int), .bool true] := by simp [upV, hu]
        rw [eB, eE]
        rw [eV] at hP
        have HP := Lib.hid hP
        clear hP eB eE eV hu
        go_enter Try.func9, Try.ntmps9
        go_wp2_with (first
          | (go_at_call 26; (with_reducible refine (prog_whole _ _ _ _).mono ?_); rintro e w1 ⟨rfl, rfl⟩; rw [d16])
          | (go_at_call 27; (with_reducible refine HP.out.mono ?_); rintro e w2 ⟨rfl, hb⟩; have HB := Lib.hid hb; clear hb)
          | (at_make; refine wpList_make_full _ rfl _ _ 22 rfl w.heap.size 5 i0 (.int .u8 0) 1 Try.underlying22 hi hz0 hz1 _ _ _ _ n rfl rfl rfl rfl (by rw [hz2]; omega) (by unfold maxLen; omega) HB.out.size ?_; intro w3 hown hgrow; have M1 := Lib.hid (show w3.ownsRow w.heap.size 5 1 (.slice (some ⟨w2.heap.size, 0, none⟩) n n) n (Us (List.replicate n 0)) ∧ Below w.heap.size w w3 from ⟨by rw [Us_zeros]; simpa [Value.cells, toList_madeCells_one] using hown, HB.out.grown hgrow HB.out.size (fun k e => by cases e)⟩); clear hown hgrow)
          | (with_reducible refine wpList_copy_fill rfl (.tmp 24) (.tmp 25) 22 22 rfl 5 Try.underlying22 info_one w.heap.size w2.heap.size n n _ rfl M1.out.1 A l.length c w.heap.size (Us l) rfl (Us_length l) (SeesP.iff_sees.1 (HS.out.keep fun q hq => M1.out.2.cell hq)) (Us_one l) ?_; intro w4 hown2 hg2; rw [copy_take l n hn] at hown2; have M2 := Lib.hid (show w4.ownsRow w.heap.size 5 1 (.slice (some ⟨w2.heap.size, 0, none⟩) n n) n (Us (l.take n)) ∧ Below w.heap.size w w4 from ⟨hown2, M1.out.2.grown hg2 M1.out.2.size (fun k e => by cases e; exact HB.out.size)⟩); clear hown2 hg2))
        go_ret2
        exact gives_own M2.out.1 M2.out.2 (by rw [List.length_take]; omega)
    · have d16 : decide (l.length % 16 = 0) = false := decide_eq_false h16
      have eB : unpB l = [] := by simp [unpB, h16]
      have eE : unpE l = 2 := by simp [unpE, h16]
      rw [eB, eE]
      go_enter Try.func9, Try.ntmps9
      go_wp2_with (go_at_call 26; (with_reducible refine (prog_whole _ _ _ _).mono ?_); rintro e w1 ⟨rfl, rfl⟩; rw [d16])
      go_ret2
      exact gives_none (Below.refl _ _)

/-- a block doubled -/
def dblAt (x : List UInt8) (i : Nat) : UInt8 := (x.getD i 0 <<< 1) ||| (x.getD (i + 1) 0 >>> 7)
def dblT (x : List UInt8) (j : Nat) : List UInt8 := fillP (dblAt x) 16 (fun i => decide (j ≤ i))
def dblL (x : List UInt8) : List UInt8 := if x.getD 0 0 >>> 7 = 1 then ((List.range 16).map (dblAt x)).set 15 (((List.range 16).map (dblAt x)).getD 15 0 ^^^ 0x87) else (List.range 16).map (dblAt x)
theorem dblL_length (x : List UInt8) : (dblL x).length = 16 := by unfold dblL; split <;> simp
theorem dblT_length (x : List UInt8) (j : Nat) : (dblT x j).length = 16 := fillP_length _ _ _
theorem dblT_16 (x : List UInt8) : dblT x 16 = List.replicate 16 0 := by
  unfold dblT fillP
  apply List.ext_getElem
  · simp
  · intro i h1 h2
    simp only [List.length_map, List.length_range] at h1
    have : ¬ 16 ≤ i := by omega
    rw [List.getElem_replicate, List.getElem_map, List.getElem_range]
    exact if_neg (by simpa using h1)
theorem dblT_0 (x : List UInt8) : dblT x 0 = (List.range 16).map (dblAt x) := fillP_all fun i hi => by simp
theorem dblT_set (x : List UInt8) (t : Nat) : (dblT x (t + 1)).set t (dblAt x t) = dblT x t := by
  refine fillP_set (by simp) fun i hi => ?_
  have : (t ≤ i) = (t + 1 ≤ i) := by apply propext; omega
  simp [this]
theorem shl1_nat (v : UInt8) : (v <<< 1).toNat = v.toNat * 2 % 256 := by
  rw [UInt8.toNat_shiftLeft, show (1 : UInt8).toNat % 8 = 1 from rfl, Nat.shiftLeft_eq]
theorem shr7_nat (v : UInt8) : (v >>> 7).toNat = v.toNat / 128 := by
  rw [UInt8.toNat_shiftRight, show (7 : UInt8).toNat % 8 = 7 from rfl, Nat.shiftRight_eq_div_pow]
theorem dbl_val (v s : UInt8) (y : Int) (hy : y = (s.toNat : Int)) : Value.int .u8 (bits .or .u8 ((v.toNat : Int) * 2 % 256) y) = U (v <<< 1 ||| s) := by
  subst hy
  have h := u8_or_nat (v <<< 1).toNat s.toNat (v <<< 1).toNat_lt s.toNat_lt
  have e : (v.toNat : Int) * (2 : Int) % (256 : Int) = ((v <<< 1).toNat : Int) := by rw [shl1_nat]; omega
  rw [e, h]
  unfold U
  rw [UInt8.toNat_or]
def DbR (w : World) (x : List UInt8) (j : Nat) (wr : World) : Prop := RowB wr w.heap.size (dblT x j) ∧ Below w.heap.size w wr
theorem DbR.step {w wr : World} {x : List UInt8} {t : Nat} {v : UInt8} {y : Int} (h : DbR w x (t + 1) wr) (hv : v = x.getD t 0) (hy : y = ((x.getD (t + 1) 0 >>> 7).toNat : Int)) :
    DbR w x t (wr.setCell ⟨w.heap.size, t, none⟩ (.int .u8 (bits .or .u8 ((v.toNat : Int) * 2 % 256) y))) := by
  rw [dbl_val v _ y hy]
  refine ⟨?_, h.2.setCell (p := ⟨w.heap.size, t, none⟩) (Nat.le_refl _) _⟩
  have h1 := h.1.set t (v <<< 1 ||| x.getD (t + 1) 0 >>> 7)
  rw [hv] at h1 ⊢
  rw [← dblT_set]
  exact h1
set_option maxRecDepth 40000 in
set_option maxHeartbeats 1000000 in
theorem prog_double (x : List UInt8) (A : Option Addr) (c : Nat) (w : World) (hx : x.length = 16) (hs : SeesP w (· < w.heap.size) A (Us x)) :
    Calls Try.prog 47 #[.slice A 16 c] w (One16 w (dblL x)) := by
  obtain ⟨b, o, rfl, hb, hc⟩ := seen_addr hs (by omega)
  have HC := Lib.hid (show ∀ k, k < 16 → w.cell? ⟨b, o + k, none⟩ = some (.int .u8 ((x.getD k 0).toNat : Int)) from fun k hk => hc k (by omega))
  have HX := Lib.hid hx
  clear hc hs hx
  have hm : ∀ w, (Instr.makeSlice 22 (.int .i64 16) (.int .i64 16)).run Try.prog w = .ok (.slice (some ⟨w.heap.size, 0, none⟩) 16 16) (w.alloc (.cells (Us (List.replicate 16 0)).toArray 5)) := fun w => by kernel_rfl
  have HR0 := Lib.hid (show DbR w x 16 (w.alloc (.cells (Us (List.replicate 16 0)).toArray 5)) from ⟨by rw [dblT_16]; exact RowB.new rfl, (Below.refl _ _).alloc (Nat.le_refl _) _⟩)
  have HZ0 := Lib.hid (show (0 : Int) = ((x.getD 16 0 >>> 7).toNat : Int) by rw [show x.getD 16 0 = 0 from by rw [List.getD, List.getElem?_eq_none (by rw [HX.out]; exact Nat.le_refl _)]; rfl]; rfl)
  go_enter Try.func47, Try.ntmps47
  go_wp2
  go_loopw [4, 5] (fun s i wr => ∃ (j : Nat) (z y : Int), j ≤ 16 ∧ i = .int .i64 z ∧ z = (j : Int) - 1 ∧ s = .int .u8 y ∧ Hid (y = ((x.getD j 0 >>> 7).toNat : Int)) ∧ Hid (DbR w x j wr)) (fun _ i _ => (intOf i + 1).toNat)
  case atStart => exact ⟨16, 15, 0, by decide, rfl, rfl, rfl, HZ0, HR0⟩
  case round =>
    clear HR0 HZ0
    obtain ⟨j, z, y, hj, rfl, hz, rfl, HY, HR⟩ := hrel
    cases j with
    | succ t =>
      obtain rfl : z = (t : Int) := by omega
      have y1 := (HR.out.2.cell (p := ⟨b, o + t, none⟩) hb).trans (HC.out t (by omega))
      obtain ⟨v, hv⟩ : ∃ v, v = x.getD t 0 := ⟨_, rfl⟩
      rw [← hv] at y1
      have HV := Lib.hid hv
      have y3 := HR.out.1.cell (k := t) (by rw [dblT_length]; omega)
      have y4 := HR.out.1.free t
      have i1 : (t : Int) < 16 := by omega
      clear hz hv
      have HS := Lib.hid (HR.out.step HV.out HY.out)
      have HY2 := Lib.hid (show (v.toNat : Int) / 128 = ((x.getD t 0 >>> 7).toNat : Int) by rw [← HV.out, shr7_nat]; omega)
      clear HR HY HC
      go_wp2
      go_roundw
      case rel => exact ⟨t, (t : Int) - 1, _, by omega, rfl, rfl, rfl, HY2, HS⟩
      case measure => simp [intOf]
    | zero =>
      obtain rfl : z = -1 := by omega
      have HL := Lib.hid (show RowB wr w.heap.size ((List.range 16).map (dblAt x)) from by rw [← dblT_0]; exact HR.out.1)
      have HB := Lib.hid HR.out.2
      clear HR HC hz
      by_cases h1 : x.getD 0 0 >>> 7 = 1
      · obtain rfl : y = 1 := by rw [HY.out, h1]; decide
        have HD := Lib.hid (show dblL x = ((List.range 16).map (dblAt x)).set 15 (((List.range 16).map (dblAt x)).getD 15 0 ^^^ 0x87) from if_pos h1)
        obtain ⟨d, hd⟩ : ∃ d, d = (List.range 16).map (dblAt x) := ⟨_, rfl⟩
        rw [← hd] at HL HD
        have hdl : d.length = 16 := by rw [hd]; simp
        clear hd
        obtain ⟨q, hq⟩ : ∃ q, q = d.getD 15 0 := ⟨_, rfl⟩
        have y3 := HL.out.cell (k := 15) (by omega)
        have y4 := HL.out.free 15
        rw [← hq] at y3
        have HQ := Lib.hid hq
        clear hq HY h1
        have HF := Lib.hid (show One16 w (dblL x) (.returned (.slice (some ⟨w.heap.size, 0, none⟩) 16 16)) (wr.setCell ⟨w.heap.size, 15, none⟩ (.int .u8 (bits .xor .u8 (q.toNat : Int) 135))) from by
          have e : bits .xor .u8 (q.toNat : Int) 135 = ((q ^^^ 135).toNat : Int) := b_xor q 135
          rw [e, HD.out, ← HQ.out]
          exact ⟨_, rfl, Nat.le_refl _, HL.out.set 15 (q ^^^ 135), HB.out.setCell (p := ⟨w.heap.size, 15, none⟩) (Nat.le_refl _) _⟩)
        clear HD HL HB HQ
        go_wp2
        go_ret
        exact HF.out
      · have hn : y ≠ 1 := fun e => h1 (UInt8.toNat.inj (by have := HY.out; rw [e] at this; have h2 : (1 : UInt8).toNat = 1 := rfl; omega))
        have dy : (y == 1) = false := by rw [beq_eq_false_iff_ne]; exact hn
        have HD := Lib.hid (show dblL x = (List.range 16).map (dblAt x) from if_neg h1)
        clear HY h1 hn
        go_wp2
        go_ret
        exact ⟨_, rfl, Nat.le_refl _, by rw [HD.out]; exact HL.out, HB.out⟩

end Go.Proofs.Ytipkaeeimohmpaa
