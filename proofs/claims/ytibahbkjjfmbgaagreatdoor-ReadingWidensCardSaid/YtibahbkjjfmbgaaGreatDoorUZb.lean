/-
  What is proved here: what the program's isBirth answers, for all texts; the table of the ranges lies in memory.
-/
import Derived.Test.YtibahbkjjfmbgaaGreatDoorUY2
import Derived.Deep.LoopGhost
import Derived.WalkMore
namespace Go.Proofs.YtibahbkjjfmbgaaGreatDoor
open Go.RowKit
set_option linter.unusedVariables false
def lo3 (k : Nat) : Int := if k = 0 then 0 else 1
def hi3 (k : Nat) : Int := if k = 0 then 99 else if k = 1 then 12 else 31
def pairB (x : List UInt8) (k : Nat) : Bool := decide (pairN x (2 * k) = -1 ∨ (lo3 k ≤ pairN x (2 * k) ∧ pairN x (2 * k) ≤ hi3 k))
theorem pairN_bd (x : List UInt8) (i : Nat) : -2 ≤ pairN x i ∧ pairN x i ≤ 99 := by
 unfold pairN
 split
 · omega
 · split <;> omega
theorem birth_pairs {x : List UInt8} (h : x.length = 6) : birthB x = (pairB x 0 && (pairB x 1 && pairB x 2)) := by
 unfold birthB pairB lo3 hi3
 rw [decide_eq_true h, Bool.true_and]
 have h0 := pairN_bd x 0
 have e0 : decide (-2 < pairN x 0) = decide (pairN x (2 * 0) = -1 ∨ (((if (0 : Nat) = 0 then (0 : Int) else 1)) ≤ pairN x (2 * 0) ∧ pairN x (2 * 0) ≤ (if (0 : Nat) = 0 then (99 : Int) else if (0 : Nat) = 1 then 12 else 31))) := by
  rw [decide_eq_decide]
  simp only [Nat.mul_zero, if_true]
  have : pairN x 0 ≠ -1 → pairN x 0 ≠ -2 → 0 ≤ pairN x 0 := by omega
  omega
 rw [e0]
 rfl
theorem birth_no {x : List UInt8} (h : x.length = 6) {k : Nat} (hk : k < 3) (hp : pairB x k = false) : birthB x = false := by
 rw [birth_pairs h]
 have : k = 0 ∨ k = 1 ∨ k = 2 := by omega
 rcases this with rfl | rfl | rfl <;> rw [hp] <;> simp
theorem birth_yes {x : List UInt8} (h : x.length = 6) (hp : ∀ k, k < 3 → pairB x k = true) : birthB x = true := by
 rw [birth_pairs h, hp 0 (by omega), hp 1 (by omega), hp 2 (by omega)]; rfl
theorem str_at (T : ByteArray) (i : Nat) (h : i < T.size) (w : World) : (Instr.index 9 (.string T) (.int .i64 (i : Int))).run Tryz.prog w = .ok (.int .u8 ((T[i]'h).toNat : Int)) w := by
 rw [run_index_string w 9 T .i64 _ Tryz.underlying9, dif_pos (by omega)]
 simp
theorem S_get (x : List UInt8) (i : Nat) (h : i < (S x).size) : (((S x)[i]'h).toNat : Int) = cB x i := by
 have h2 : i < x.length := by rw [← S_size]; exact h
 rw [cB_get h2]
 rfl
theorem two_of {x : List UInt8} {k : Nat} (h : 2 * k + 2 ≤ x.length) : ∃ a b : UInt8, (x.drop (2 * k)).take 2 = [a, b] ∧ cB x (2 * k) = (a.toNat : Int) ∧ cB x (2 * k + 1) = (b.toNat : Int) := by
 refine ⟨x[2 * k], x[2 * k + 1], ?_, cB_get (by omega), cB_get (by omega)⟩
 rw [List.drop_eq_getElem_cons (by omega), List.drop_eq_getElem_cons (by omega)]
 rfl
def nj (a b : Int) (j : Nat) : Int := if j = 0 then 0 else if j = 1 then a - 48 else (a - 48) * 10 + (b - 48)
set_option maxHeartbeats 1600000 in
set_option maxRecDepth 20000 in
theorem p_birth (s : ByteArray) (x : List UInt8) (hx : s = S x) (w : World) (hM : Mm w) (hm : s.size ≤ 140737488355328) :
 Calls Tryz.prog 105 #[.string s] w fun e w' => e = .returned (.bool (birthB x)) ∧ w' = w := by
 have hl : s.size = x.length := by rw [hx, S_size]
 by_cases h6 : s.size = 6
 ·
  have d6 : ((s.size : Int) != 6) = false := by simp; omega
  have h6x : x.length = 6 := by omega
  have z1 : s.size ≤ 6 := by omega
  have z2 : 6 ≤ s.size := by omega
  have hB := hM.2.2.1.2
  have H := Lib.hid (show _ ∧ _ ∧ _ from ⟨hx, h6x, hB⟩)
  have b00 : w.cell? ⟨2, 0, none⟩ = some (.int .i64 0) := hB 0 (by decide)
  have b01 : w.cell? ⟨2, 1, none⟩ = some (.int .i64 99) := hB 1 (by decide)
  have b10 : w.cell? ⟨2, 2, none⟩ = some (.int .i64 1) := hB 2 (by decide)
  have b11 : w.cell? ⟨2, 3, none⟩ = some (.int .i64 12) := hB 3 (by decide)
  have b20 : w.cell? ⟨2, 4, none⟩ = some (.int .i64 1) := hB 4 (by decide)
  have b21 : w.cell? ⟨2, 5, none⟩ = some (.int .i64 31) := hB 5 (by decide)
  clear hx hl h6 h6x hB hM
  go_enter Tryz.func105, Tryz.ntmps105
  go_wp2
  go_step3
  go_wp2
  go_step3
  go_wp2
  go_loopg [11] 3 (fun g i wx => wx = w ∧ ∃ k : Nat, k ≤ 3 ∧ g = 3 - k ∧ i = .int .i64 (k : Int) ∧ Hid (∀ j, j < k → pairB x j = true))
  case atStart => exact ⟨rfl, 0, by omega, rfl, rfl, Lib.hid (fun j hj => by omega)⟩
  case round =>
   obtain ⟨hw1, k, hk, hgk, rfl, HR⟩ := hrel
   subst hw1
   by_cases hlt : k < 3
   ·
    obtain ⟨a, b, h2, hca, hcb⟩ := two_of (x := x) (k := k) (by have := H.out.2.1; omega)
    obtain ⟨p, hp⟩ : ∃ p, p = S [a, b] := ⟨_, rfl⟩
    have hsl : s.extract (2 * k) (2 * k + 2) = p := by rw [H.out.1, S_extract, hp, ← h2]; congr 2; omega
    have hpz : p.size = 2 := by rw [hp]; rfl
    have i0 : ∀ w', (Instr.index 9 (.string p) (.int .i64 0)).run Tryz.prog w' = .ok (.int .u8 (a.toNat : Int)) w' := fun w' => by
     subst hp; exact str_at (S [a, b]) 0 (by rw [S_size]; simp) w'
    have i1 : ∀ w', (Instr.index 9 (.string p) (.int .i64 1)).run Tryz.prog w' = .ok (.int .u8 (b.toNat : Int)) w' := fun w' => by
     subst hp; exact str_at (S [a, b]) 1 (by rw [S_size]; simp) w'
    have hq : (p.toList == [60, 60]) = decide ((a.toNat : Int) = 60 ∧ (b.toNat : Int) = 60) := by
     rw [hp, S_toList, Bool.eq_iff_iff]
     simp only [beq_iff_eq, decide_eq_true_eq, List.cons.injEq, and_true]
     constructor
     · rintro ⟨rfl, rfl⟩; exact ⟨rfl, rfl⟩
     · rintro ⟨e1, e2⟩; exact ⟨UInt8.toNat_inj.1 (by show a.toNat = 60; omega), UInt8.toNat_inj.1 (by show b.toNat = 60; omega)⟩
    have hN : pairN x (2 * k) = if (a.toNat : Int) = 60 ∧ (b.toNat : Int) = 60 then -1 else if (a.toNat : Int) < 48 ∨ 57 < (a.toNat : Int) ∨ (b.toNat : Int) < 48 ∨ 57 < (b.toNat : Int) then -2 else 10 * ((a.toNat : Int) - 48) + ((b.toNat : Int) - 48) := by
     unfold pairN; rw [hca, hcb]
    have ha2 := UInt8.toNat_lt a
    have hb2 := UInt8.toNat_lt b
    obtain ⟨ca, hca'⟩ : ∃ ca : Int, (a.toNat : Int) = ca := ⟨_, rfl⟩
    obtain ⟨cb, hcb'⟩ : ∃ cb : Int, (b.toNat : Int) = cb := ⟨_, rfl⟩
    rw [hca'] at i0 hq hN
    rw [hcb'] at i1 hq hN
    have a0 : 0 ≤ ca := by omega
    have a9 : ca ≤ 255 := by omega
    have b0 : 0 ≤ cb := by omega
    have b9 : cb ≤ 255 := by omega
    clear hca hcb h2 hp ha2 hb2 hca' hcb'
    have HN := Lib.hid hN
    have HS := Lib.hid hsl
    clear hN hsl
    have hk3 : k = 0 ∨ k = 1 ∨ k = 2 := by omega
    rcases hk3 with rfl | rfl | rfl
    ·
     have HSk : Hid (s.extract 0 2 = p) := Lib.hid HS.out
     have HQ := Lib.hid hq
     clear hq
     go_wp2
     rw [HSk.out]
     go_loopg [21, 5] 2 (fun g jj nn wx => wx = wr ∧ ∃ j : Nat, j ≤ 2 ∧ g = 2 - j ∧ jj = .int .i64 (j : Int) ∧ nn = .int .i64 (nj ca cb j) ∧ Hid (1 ≤ j → 48 ≤ ca ∧ ca ≤ 57) ∧ Hid (2 ≤ j → 48 ≤ cb ∧ cb ≤ 57))
     case atStart => exact ⟨rfl, 0, by omega, rfl, rfl, rfl, Lib.hid (fun h => by omega), Lib.hid (fun h => by omega)⟩
     case round =>
      obtain ⟨hw2, j, hj, hgj, rfl, rfl, HA, HC⟩ := hrel
      subst hw2
      have hj3 : j = 0 ∨ j = 1 ∨ j = 2 := by omega
      rcases hj3 with rfl | rfl | rfl
      ·
       rw [show nj ca cb 0 = 0 from rfl]
       by_cases hd : 48 ≤ ca ∧ ca ≤ 57
       · obtain ⟨d1, d2⟩ := hd
         go_wp2
         go_roundg (2 - 1)
         case measure => omega
         case rel => exact ⟨rfl, 1, by omega, rfl, rfl, by first | rfl | go_num | (show Value.int _ _ = Value.int _ _; congr 1; simp [nj]; done) | (show Value.int _ _ = Value.int _ _; congr 1; simp [nj]; omega), Lib.hid (fun _ => ⟨d1, d2⟩), Lib.hid (fun h => by omega)⟩
       ·
        by_cases hf : ca = 60 ∧ cb = 60
        ·
         have q1 : (p.toList == [60, 60]) = true := by rw [HQ.out]; exact decide_eq_true hf
         have hpb : pairB x 0 = true := by
          unfold pairB
          rw [HN.out, if_pos hf]
          decide
         obtain ⟨rfl, rfl⟩ := hf
         clear hd
         go_wp2
         go_roundg (3 - (0 + 1))
         case measure => omega
         case rel =>
          refine ⟨rfl, 0 + 1, by omega, rfl, rfl, Lib.hid (fun i hi => ?_)⟩
          rcases Nat.lt_or_ge i 0 with h | h
          · exact HR.out i h
          · obtain rfl : i = 0 := by omega
            exact hpb
        ·
         have q1 : (p.toList == [60, 60]) = false := by rw [HQ.out]; exact decide_eq_false hf
         have hpb : pairB x 0 = false := by
          unfold pairB
          rw [HN.out, if_neg hf, if_pos (by omega)]
          decide
         have HV := Lib.hid (birth_no H.out.2.1 (by decide) hpb)
         have hd' : ca < 48 ∨ 57 < ca := by omega
         clear hf hpb hd
         rcases hd' with d1 | d1
         all_goals
          go_wp2
          try rw [Exit.noGoto_ret]
          go_ret
          exact ⟨by rw [HV.out]; rfl, rfl⟩
      ·
       obtain ⟨a1, a2⟩ := HA.out (by omega)
       rw [show nj ca cb 1 = ca - 48 from rfl]
       by_cases hd : 48 ≤ cb ∧ cb ≤ 57
       · obtain ⟨d1, d2⟩ := hd
         go_wp2
         go_roundg (2 - 2)
         case measure => omega
         case rel => exact ⟨rfl, 2, by omega, rfl, rfl, by first | rfl | go_num | (show Value.int _ _ = Value.int _ _; congr 1; simp [nj]; done) | (show Value.int _ _ = Value.int _ _; congr 1; simp [nj]; omega), Lib.hid (fun _ => ⟨a1, a2⟩), Lib.hid (fun _ => ⟨d1, d2⟩)⟩
       ·
        have hf : ¬ (ca = 60 ∧ cb = 60) := by omega
        have q1 : (p.toList == [60, 60]) = false := by rw [HQ.out]; exact decide_eq_false hf
        have hpb : pairB x 0 = false := by
         unfold pairB
         rw [HN.out, if_neg hf, if_pos (by omega)]
         decide
        have HV := Lib.hid (birth_no H.out.2.1 (by decide) hpb)
        have hd' : cb < 48 ∨ 57 < cb := by omega
        clear hf hpb hd
        rcases hd' with d1 | d1
        all_goals
         go_wp2
         try rw [Exit.noGoto_ret]
         go_ret
         exact ⟨by rw [HV.out]; rfl, rfl⟩
      ·
       obtain ⟨a1, a2⟩ := HA.out (by omega)
       obtain ⟨c1, c2⟩ := HC.out (by omega)
       obtain ⟨n, hn⟩ : ∃ n, nj ca cb 2 = n := ⟨_, rfl⟩
       have hpn : pairN x (2 * 0) = n := by rw [HN.out, if_neg (by omega), if_neg (by omega), ← hn]; simp [nj]; omega
       rw [hn]
       have HPN := Lib.hid hpn
       clear hn hpn
       by_cases hlo : n < lo3 0
       · have hpb : pairB x 0 = false := by
          unfold pairB
          rw [HPN.out]
          have : lo3 0 ≤ 1 := by decide
          exact decide_eq_false (by have := HPN.out; have h9 := pairN_bd x (2 * 0); have h8 : pairN x (2 * 0) ≠ -1 := by rw [HN.out, if_neg (by omega), if_neg (by omega)]; omega
                                    omega)
         have HV := Lib.hid (birth_no H.out.2.1 (by decide) hpb)
         have hlo' : n < 0 := hlo
         clear hlo hpb
         go_wp2
         try rw [Exit.noGoto_ret]
         go_ret
         exact ⟨by rw [HV.out]; rfl, rfl⟩
       ·
        by_cases hhi : hi3 0 < n
        · have hpb : pairB x 0 = false := by
           unfold pairB
           rw [HPN.out]
           exact decide_eq_false (by have : (0 : Int) ≤ hi3 0 := by decide
                                     omega)
          have HV := Lib.hid (birth_no H.out.2.1 (by decide) hpb)
          have hhi' : 99 < n := hhi
          have hlo' : ¬ n < 0 := hlo
          clear hlo hhi hpb
          go_wp2
          try rw [Exit.noGoto_ret]
          go_ret
          exact ⟨by rw [HV.out]; rfl, rfl⟩
        ·
         have hpb : pairB x 0 = true := by
          unfold pairB
          rw [HPN.out]
          exact decide_eq_true (.inr (by omega))
         have hhi' : ¬ 99 < n := hhi
         have hlo' : ¬ n < 0 := hlo
         clear hlo hhi
         go_wp2
         go_roundg (3 - (0 + 1))
         case measure => omega
         case rel =>
          refine ⟨rfl, 0 + 1, by omega, rfl, rfl, Lib.hid (fun i hi => ?_)⟩
          rcases Nat.lt_or_ge i 0 with h | h
          · exact HR.out i h
          · obtain rfl : i = 0 := by omega
            exact hpb
    ·
     have HSk : Hid (s.extract 2 4 = p) := Lib.hid HS.out
     have HQ := Lib.hid hq
     clear hq
     go_wp2
     rw [HSk.out]
     go_loopg [21, 5] 2 (fun g jj nn wx => wx = wr ∧ ∃ j : Nat, j ≤ 2 ∧ g = 2 - j ∧ jj = .int .i64 (j : Int) ∧ nn = .int .i64 (nj ca cb j) ∧ Hid (1 ≤ j → 48 ≤ ca ∧ ca ≤ 57) ∧ Hid (2 ≤ j → 48 ≤ cb ∧ cb ≤ 57))
     case atStart => exact ⟨rfl, 0, by omega, rfl, rfl, rfl, Lib.hid (fun h => by omega), Lib.hid (fun h => by omega)⟩
     case round =>
      obtain ⟨hw2, j, hj, hgj, rfl, rfl, HA, HC⟩ := hrel
      subst hw2
      have hj3 : j = 0 ∨ j = 1 ∨ j = 2 := by omega
      rcases hj3 with rfl | rfl | rfl
      ·
       rw [show nj ca cb 0 = 0 from rfl]
       by_cases hd : 48 ≤ ca ∧ ca ≤ 57
       · obtain ⟨d1, d2⟩ := hd
         go_wp2
         go_roundg (2 - 1)
         case measure => omega
         case rel => exact ⟨rfl, 1, by omega, rfl, rfl, by first | rfl | go_num | (show Value.int _ _ = Value.int _ _; congr 1; simp [nj]; done) | (show Value.int _ _ = Value.int _ _; congr 1; simp [nj]; omega), Lib.hid (fun _ => ⟨d1, d2⟩), Lib.hid (fun h => by omega)⟩
       ·
        by_cases hf : ca = 60 ∧ cb = 60
        ·
         have q1 : (p.toList == [60, 60]) = true := by rw [HQ.out]; exact decide_eq_true hf
         have hpb : pairB x 1 = true := by
          unfold pairB
          rw [HN.out, if_pos hf]
          decide
         obtain ⟨rfl, rfl⟩ := hf
         clear hd
         go_wp2
         go_roundg (3 - (1 + 1))
         case measure => omega
         case rel =>
          refine ⟨rfl, 1 + 1, by omega, rfl, rfl, Lib.hid (fun i hi => ?_)⟩
          rcases Nat.lt_or_ge i 1 with h | h
          · exact HR.out i h
          · obtain rfl : i = 1 := by omega
            exact hpb
        ·
         have q1 : (p.toList == [60, 60]) = false := by rw [HQ.out]; exact decide_eq_false hf
         have hpb : pairB x 1 = false := by
          unfold pairB
          rw [HN.out, if_neg hf, if_pos (by omega)]
          decide
         have HV := Lib.hid (birth_no H.out.2.1 (by decide) hpb)
         have hd' : ca < 48 ∨ 57 < ca := by omega
         clear hf hpb hd
         rcases hd' with d1 | d1
         all_goals
          go_wp2
          try rw [Exit.noGoto_ret]
          go_ret
          exact ⟨by rw [HV.out]; rfl, rfl⟩
      ·
       obtain ⟨a1, a2⟩ := HA.out (by omega)
       rw [show nj ca cb 1 = ca - 48 from rfl]
       by_cases hd : 48 ≤ cb ∧ cb ≤ 57
       · obtain ⟨d1, d2⟩ := hd
         go_wp2
         go_roundg (2 - 2)
         case measure => omega
         case rel => exact ⟨rfl, 2, by omega, rfl, rfl, by first | rfl | go_num | (show Value.int _ _ = Value.int _ _; congr 1; simp [nj]; done) | (show Value.int _ _ = Value.int _ _; congr 1; simp [nj]; omega), Lib.hid (fun _ => ⟨a1, a2⟩), Lib.hid (fun _ => ⟨d1, d2⟩)⟩
       ·
        have hf : ¬ (ca = 60 ∧ cb = 60) := by omega
        have q1 : (p.toList == [60, 60]) = false := by rw [HQ.out]; exact decide_eq_false hf
        have hpb : pairB x 1 = false := by
         unfold pairB
         rw [HN.out, if_neg hf, if_pos (by omega)]
         decide
        have HV := Lib.hid (birth_no H.out.2.1 (by decide) hpb)
        have hd' : cb < 48 ∨ 57 < cb := by omega
        clear hf hpb hd
        rcases hd' with d1 | d1
        all_goals
         go_wp2
         try rw [Exit.noGoto_ret]
         go_ret
         exact ⟨by rw [HV.out]; rfl, rfl⟩
      ·
       obtain ⟨a1, a2⟩ := HA.out (by omega)
       obtain ⟨c1, c2⟩ := HC.out (by omega)
       obtain ⟨n, hn⟩ : ∃ n, nj ca cb 2 = n := ⟨_, rfl⟩
       have hpn : pairN x (2 * 1) = n := by rw [HN.out, if_neg (by omega), if_neg (by omega), ← hn]; simp [nj]; omega
       rw [hn]
       have HPN := Lib.hid hpn
       clear hn hpn
       by_cases hlo : n < lo3 1
       · have hpb : pairB x 1 = false := by
          unfold pairB
          rw [HPN.out]
          have : lo3 1 ≤ 1 := by decide
          exact decide_eq_false (by have := HPN.out; have h9 := pairN_bd x (2 * 1); have h8 : pairN x (2 * 1) ≠ -1 := by rw [HN.out, if_neg (by omega), if_neg (by omega)]; omega
                                    omega)
         have HV := Lib.hid (birth_no H.out.2.1 (by decide) hpb)
         have hlo' : n < 1 := hlo
         clear hlo hpb
         go_wp2
         try rw [Exit.noGoto_ret]
         go_ret
         exact ⟨by rw [HV.out]; rfl, rfl⟩
       ·
        by_cases hhi : hi3 1 < n
        · have hpb : pairB x 1 = false := by
           unfold pairB
           rw [HPN.out]
           exact decide_eq_false (by have : (0 : Int) ≤ hi3 1 := by decide
                                     omega)
          have HV := Lib.hid (birth_no H.out.2.1 (by decide) hpb)
          have hhi' : 12 < n := hhi
          have hlo' : ¬ n < 1 := hlo
          clear hlo hhi hpb
          go_wp2
          try rw [Exit.noGoto_ret]
          go_ret
          exact ⟨by rw [HV.out]; rfl, rfl⟩
        ·
         have hpb : pairB x 1 = true := by
          unfold pairB
          rw [HPN.out]
          exact decide_eq_true (.inr (by omega))
         have hhi' : ¬ 12 < n := hhi
         have hlo' : ¬ n < 1 := hlo
         clear hlo hhi
         go_wp2
         go_roundg (3 - (1 + 1))
         case measure => omega
         case rel =>
          refine ⟨rfl, 1 + 1, by omega, rfl, rfl, Lib.hid (fun i hi => ?_)⟩
          rcases Nat.lt_or_ge i 1 with h | h
          · exact HR.out i h
          · obtain rfl : i = 1 := by omega
            exact hpb
    ·
     have HSk : Hid (s.extract 4 6 = p) := Lib.hid HS.out
     have HQ := Lib.hid hq
     clear hq
     go_wp2
     rw [HSk.out]
     go_loopg [21, 5] 2 (fun g jj nn wx => wx = wr ∧ ∃ j : Nat, j ≤ 2 ∧ g = 2 - j ∧ jj = .int .i64 (j : Int) ∧ nn = .int .i64 (nj ca cb j) ∧ Hid (1 ≤ j → 48 ≤ ca ∧ ca ≤ 57) ∧ Hid (2 ≤ j → 48 ≤ cb ∧ cb ≤ 57))
     case atStart => exact ⟨rfl, 0, by omega, rfl, rfl, rfl, Lib.hid (fun h => by omega), Lib.hid (fun h => by omega)⟩
     case round =>
      obtain ⟨hw2, j, hj, hgj, rfl, rfl, HA, HC⟩ := hrel
      subst hw2
      have hj3 : j = 0 ∨ j = 1 ∨ j = 2 := by omega
      rcases hj3 with rfl | rfl | rfl
      ·
       rw [show nj ca cb 0 = 0 from rfl]
       by_cases hd : 48 ≤ ca ∧ ca ≤ 57
       · obtain ⟨d1, d2⟩ := hd
         go_wp2
         go_roundg (2 - 1)
         case measure => omega
         case rel => exact ⟨rfl, 1, by omega, rfl, rfl, by first | rfl | go_num | (show Value.int _ _ = Value.int _ _; congr 1; simp [nj]; done) | (show Value.int _ _ = Value.int _ _; congr 1; simp [nj]; omega), Lib.hid (fun _ => ⟨d1, d2⟩), Lib.hid (fun h => by omega)⟩
       ·
        by_cases hf : ca = 60 ∧ cb = 60
        ·
         have q1 : (p.toList == [60, 60]) = true := by rw [HQ.out]; exact decide_eq_true hf
         have hpb : pairB x 2 = true := by
          unfold pairB
          rw [HN.out, if_pos hf]
          decide
         obtain ⟨rfl, rfl⟩ := hf
         clear hd
         go_wp2
         go_roundg (3 - (2 + 1))
         case measure => omega
         case rel =>
          refine ⟨rfl, 2 + 1, by omega, rfl, rfl, Lib.hid (fun i hi => ?_)⟩
          rcases Nat.lt_or_ge i 2 with h | h
          · exact HR.out i h
          · obtain rfl : i = 2 := by omega
            exact hpb
        ·
         have q1 : (p.toList == [60, 60]) = false := by rw [HQ.out]; exact decide_eq_false hf
         have hpb : pairB x 2 = false := by
          unfold pairB
          rw [HN.out, if_neg hf, if_pos (by omega)]
          decide
         have HV := Lib.hid (birth_no H.out.2.1 (by decide) hpb)
         have hd' : ca < 48 ∨ 57 < ca := by omega
         clear hf hpb hd
         rcases hd' with d1 | d1
         all_goals
          go_wp2
          try rw [Exit.noGoto_ret]
          go_ret
          exact ⟨by rw [HV.out]; rfl, rfl⟩
      ·
       obtain ⟨a1, a2⟩ := HA.out (by omega)
       rw [show nj ca cb 1 = ca - 48 from rfl]
       by_cases hd : 48 ≤ cb ∧ cb ≤ 57
       · obtain ⟨d1, d2⟩ := hd
         go_wp2
         go_roundg (2 - 2)
         case measure => omega
         case rel => exact ⟨rfl, 2, by omega, rfl, rfl, by first | rfl | go_num | (show Value.int _ _ = Value.int _ _; congr 1; simp [nj]; done) | (show Value.int _ _ = Value.int _ _; congr 1; simp [nj]; omega), Lib.hid (fun _ => ⟨a1, a2⟩), Lib.hid (fun _ => ⟨d1, d2⟩)⟩
       ·
        have hf : ¬ (ca = 60 ∧ cb = 60) := by omega
        have q1 : (p.toList == [60, 60]) = false := by rw [HQ.out]; exact decide_eq_false hf
        have hpb : pairB x 2 = false := by
         unfold pairB
         rw [HN.out, if_neg hf, if_pos (by omega)]
         decide
        have HV := Lib.hid (birth_no H.out.2.1 (by decide) hpb)
        have hd' : cb < 48 ∨ 57 < cb := by omega
        clear hf hpb hd
        rcases hd' with d1 | d1
        all_goals
         go_wp2
         try rw [Exit.noGoto_ret]
         go_ret
         exact ⟨by rw [HV.out]; rfl, rfl⟩
      ·
       obtain ⟨a1, a2⟩ := HA.out (by omega)
       obtain ⟨c1, c2⟩ := HC.out (by omega)
       obtain ⟨n, hn⟩ : ∃ n, nj ca cb 2 = n := ⟨_, rfl⟩
       have hpn : pairN x (2 * 2) = n := by rw [HN.out, if_neg (by omega), if_neg (by omega), ← hn]; simp [nj]; omega
       rw [hn]
       have HPN := Lib.hid hpn
       clear hn hpn
       by_cases hlo : n < lo3 2
       · have hpb : pairB x 2 = false := by
          unfold pairB
          rw [HPN.out]
          have : lo3 2 ≤ 1 := by decide
          exact decide_eq_false (by have := HPN.out; have h9 := pairN_bd x (2 * 2); have h8 : pairN x (2 * 2) ≠ -1 := by rw [HN.out, if_neg (by omega), if_neg (by omega)]; omega
                                    omega)
         have HV := Lib.hid (birth_no H.out.2.1 (by decide) hpb)
         have hlo' : n < 1 := hlo
         clear hlo hpb
         go_wp2
         try rw [Exit.noGoto_ret]
         go_ret
         exact ⟨by rw [HV.out]; rfl, rfl⟩
       ·
        by_cases hhi : hi3 2 < n
        · have hpb : pairB x 2 = false := by
           unfold pairB
           rw [HPN.out]
           exact decide_eq_false (by have : (0 : Int) ≤ hi3 2 := by decide
                                     omega)
          have HV := Lib.hid (birth_no H.out.2.1 (by decide) hpb)
          have hhi' : 31 < n := hhi
          have hlo' : ¬ n < 1 := hlo
          clear hlo hhi hpb
          go_wp2
          try rw [Exit.noGoto_ret]
          go_ret
          exact ⟨by rw [HV.out]; rfl, rfl⟩
        ·
         have hpb : pairB x 2 = true := by
          unfold pairB
          rw [HPN.out]
          exact decide_eq_true (.inr (by omega))
         have hhi' : ¬ 31 < n := hhi
         have hlo' : ¬ n < 1 := hlo
         clear hlo hhi
         go_wp2
         go_roundg (3 - (2 + 1))
         case measure => omega
         case rel =>
          refine ⟨rfl, 2 + 1, by omega, rfl, rfl, Lib.hid (fun i hi => ?_)⟩
          rcases Nat.lt_or_ge i 2 with h | h
          · exact HR.out i h
          · obtain rfl : i = 2 := by omega
            exact hpb
   · obtain rfl : k = 3 := by omega
     have HV := Lib.hid (birth_yes H.out.2.1 HR.out)
     go_wp2
     try rw [Exit.noGoto_ret]
     go_ret
     exact ⟨by rw [HV.out]; rfl, rfl⟩
 · have hv : birthB x = false := by unfold birthB; rw [decide_eq_false (show ¬ x.length = 6 by omega), Bool.false_and]
   have d6 : ((s.size : Int) != 6) = true := by simp; omega
   rw [hv]
   clear hv hl hx hM
   go_enter Tryz.func105, Tryz.ntmps105
   go_wp2
   go_step3
   go_wp2
   try rw [Exit.noGoto_ret]
   go_ret
   exact ⟨rfl, rfl⟩
end Go.Proofs.YtibahbkjjfmbgaaGreatDoor
