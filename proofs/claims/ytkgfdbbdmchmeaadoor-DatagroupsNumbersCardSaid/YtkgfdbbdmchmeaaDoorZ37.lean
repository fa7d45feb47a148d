/-
  What is proved here: the laws DatagroupsNumbers and DatagroupsWraps as functions, out of contracts of the program's side.
-/
import Derived.Test.YtkgfdbbdmchmeaaDoorZ34
import Derived.Test.YtkgfdbbdmchmeaaDoorZ13
import Derived.Test.YtkgfdbbdmchmeaaDoorZ12
import Derived.Test.YtkgfdbbdmchmeaaDoorZ18
namespace Go.Proofs.YtkgfdbbdmchmeaaDoor
open Go.RowKit
set_option maxRecDepth 8000
set_option linter.unusedVariables false
set_option linter.unusedSimpArgs false
structure Own15 where
  T : World → Prop
  on : ∀ {w w' : World}, T w → Below w.heap.size w w' → T w'
  tag : ∀ (n : Int) (w : World), T w → -9223372036854775808 ≤ n → n ≤ 9223372036854775807 → Calls Tryd.prog 5 #[.int .i64 n] w fun e w' => e = .returned (.tuple #[.int .i64 (gtV n), .int .i64 (gtE n)]) ∧ Below w.heap.size w w'
  group : ∀ (n : Int) (w : World), T w → -9223372036854775808 ≤ n → n ≤ 9223372036854775807 → Calls Tryd.prog 7 #[.int .i64 n] w fun e w' => e = .returned (.tuple #[.int .i64 (ggR n).1, .int .i64 (ggR n).2]) ∧ Below w.heap.size w w'
  file : ∀ (n : Int) (w : World), T w → -9223372036854775808 ≤ n → n ≤ 9223372036854775807 → Calls Tryd.prog 9 #[.int .i64 n] w fun e w' => e = .returned (.tuple #[.int .i64 (fiR n).1, .int .i64 (fiR n).2.1, .int .i64 (fiR n).2.2]) ∧ Below w.heap.size w w'
  wrap : ∀ (n : Int) (f : F) (lk : Nat) (_ : f.len = lk) (A : Option Addr) (c : Nat) (w : World), T w → -9223372036854775808 ≤ n → n ≤ 9223372036854775807 → f.size < 1125899906842620 → f.ok → f.sm → SeesF w (· < w.heap.size) A f →
    Calls Tryd.prog 15 #[.int .i64 n, .slice A lk c] w (GivesW w (wrB n f) (wrE n f))
  common : ∀ (o : List Int) (n : Nat) (_ : o.length = n) (_ : n ≤ 140737488351232) (A : Option Addr) (c : Nat) (w : World), T w → (∀ x ∈ o, -9223372036854775808 ≤ x ∧ x ≤ 9223372036854775807) → SeesP w (· < w.heap.size) A (o.map (Value.int .i64)) →
    Calls Tryd.prog 17 #[.slice A n c] w (GivesW w (cmB o) (cmE o))
  active : ∀ (x : Int) (w : World), T w → Calls Tryd.prog 19 #[.int .i64 x] w (GivesW w (acB x) (acE x))
  aw : ∀ (w : World), T w → TabG w → Calls Tryd.prog 11 #[] w fun e w' => e = .returned (.bool true) ∧ Below w.heap.size w w'
theorem same_bs (A B : Option Addr) (c d n : Nat) (x : List UInt8) (w : World) (hn : x.length = n) (h1 : SeesP w (· < w.heap.size) A (Us x)) (h2 : SeesP w (· < w.heap.size) B (Us x)) (hm : n ≤ maxLen) :
    Calls Tryd.prog 22 #[.slice A n c, .slice B n d] w fun e w' => e = .returned (.bool true) ∧ Below w.heap.size w w' := by
  subst hn
  exact ref_same_yes A B c d x w h1 h2 hm
theorem encB_len (f : F) : (encB f).length ≤ 4096 := by
  unfold encB
  split
  · next h =>
    rw [enc_length]
    rcases Nat.lt_or_ge 4096 (encN f) with g | g
    · exfalso
      unfold encE at h
      split at h
      · contradiction
      · split at h
        · cases h
        · first | (rw [if_pos g] at h; cases h) | cases h
    · exact g
  · exact Nat.zero_le _
theorem wrB_len (n : Int) (f : F) : (wrB n f).length ≤ 4096 := by
  unfold wrB
  split
  · exact encB_len _
  · exact Nat.zero_le _
theorem cmB_len (o : List Int) : (cmB o).length ≤ 4096 := by
  unfold cmB
  split
  · exact wrB_len _ _
  · exact Nat.zero_le _
theorem acB_len (x : Int) : (acB x).length ≤ 4096 := by
  unfold acB
  split
  · exact wrB_len _ _
  · exact Nat.zero_le _
set_option maxHeartbeats 3200000 in
theorem law_numbers (S : Own15) (n : Int) (w : World) (ht : S.T w) (hg : TabG w) (lo : -9223372036854775808 ≤ n) (hi : n ≤ 9223372036854775807) :
    Calls Tryd.prog 3 #[.int .i64 n] w fun e w' => e = .returned (.bool true) ∧ Below w.heap.size w w' := by
  have HTG := Lib.hid (fun u (hb : Below w.heap.size w u) => S.tag n u (S.on ht hb) lo hi)
  have HGR := Lib.hid (fun u (hb : Below w.heap.size w u) => S.group n u (S.on ht hb) lo hi)
  have HFI := Lib.hid (fun u (hb : Below w.heap.size w u) => S.file n u (S.on ht hb) lo hi)
  have HRT := Lib.hid (fun u (hb : Below w.heap.size w u) => r_tag n u (hg.on hb) lo hi)
  have HRG := Lib.hid (fun u (hb : Below w.heap.size w u) => r_group n u (hg.on hb))
  have HRF := Lib.hid (fun u => r_file n u lo hi)
  have HAW := Lib.hid (fun u (hb : Below w.heap.size w u) => S.aw u (S.on ht hb) (hg.on hb))
  have HB := Lib.hid (Below.refl w.heap.size w)
  obtain ⟨tv, h1⟩ : ∃ z, gtV n = z := ⟨_, rfl⟩
  obtain ⟨te, h2⟩ : ∃ z, gtE n = z := ⟨_, rfl⟩
  obtain ⟨gv, h3⟩ : ∃ z, (ggR n).1 = z := ⟨_, rfl⟩
  obtain ⟨ge, h4⟩ : ∃ z, (ggR n).2 = z := ⟨_, rfl⟩
  obtain ⟨fa, h5⟩ : ∃ z, (fiR n).1 = z := ⟨_, rfl⟩
  obtain ⟨fb, h6⟩ : ∃ z, (fiR n).2.1 = z := ⟨_, rfl⟩
  obtain ⟨fe, h7⟩ : ∃ z, (fiR n).2.2 = z := ⟨_, rfl⟩
  rw [h1, h2] at HTG HRT
  rw [h3, h4] at HGR HRG
  rw [h5, h6, h7] at HFI HRF
  clear h1 h2 h3 h4 h5 h6 h7 ht hg lo hi
  go_enter Tryd.func3, Tryd.ntmps3
  go_wp2_with (first
    | (go_at_call 5; ((with_reducible refine (HTG.out _ HB.out).mono ?_); rintro e w1 ⟨rfl, hb⟩); have H1 := Lib.hid (below_on HB.out hb); clear hb)
    | (go_at_call 6; ((with_reducible refine (HRT.out _ H1.out).mono ?_); rintro e w2 ⟨rfl, hw⟩); (have hw2 := hw.symm; clear hw; subst hw2))
    | (go_at_call 7; ((with_reducible refine (HGR.out _ H1.out).mono ?_); rintro e w3 ⟨rfl, hb⟩); have H3 := Lib.hid (below_on H1.out hb); clear hb)
    | (go_at_call 8; ((with_reducible refine (HRG.out _ H3.out).mono ?_); rintro e w4 ⟨rfl, hw⟩); (have hw2 := hw.symm; clear hw; subst hw2))
    | (go_at_call 9; ((with_reducible refine (HFI.out _ H3.out).mono ?_); rintro e w5 ⟨rfl, hb⟩); have H5 := Lib.hid (below_on H3.out hb); clear hb)
    | (go_at_call 10; ((with_reducible refine (HRF.out _).mono ?_); rintro e w6 ⟨rfl, hw⟩); (have hw2 := hw.symm; clear hw; subst hw2))
    | (go_at_call 11; ((with_reducible refine (HAW.out _ H5.out).mono ?_); rintro e w7 ⟨rfl, hb⟩); have H7 := Lib.hid (below_on H5.out hb); clear hb))
  go_ret
  exact ⟨by simp, H7.out⟩
set_option maxHeartbeats 6400000 in
set_option maxRecDepth 20000 in
theorem law_wraps (S : Own15) (A : Option Addr) (c : Nat) (ls : List Int) (n : Int) (B : Option Addr) (cb : Nat) (os : List Int) (w : World) (ht : S.T w) (hg : TabG w) (lo : -9223372036854775808 ≤ n) (hi : n ≤ 9223372036854775807)
    (hl : ls.length ≤ 140737488351232) (hr : ∀ x ∈ ls, -9223372036854775808 ≤ x ∧ x ≤ 9223372036854775807) (hs : SeesP w (· < w.heap.size) A (ls.map (Value.int .i64)))
    (hol : os.length ≤ 140737488351232) (hor : ∀ x ∈ os, -9223372036854775808 ≤ x ∧ x ≤ 9223372036854775807) (hos : SeesP w (· < w.heap.size) B (os.map (Value.int .i64))) :
    Calls Tryd.prog 4 #[.slice A ls.length c, .int .i64 n, .slice B os.length cb] w fun e w' => e = .returned (.bool true) ∧ Below w.heap.size w w' := by
  have HAW := Lib.hid (fun u (hb : Below w.heap.size w u) => S.aw u (S.on ht hb) (hg.on hb))
  have HRL := Lib.hid (made_roll A c ls w hl hr hs)
  have HL := Lib.hid (fun u => made_light A ls.length c u hl)
  have HB := Lib.hid (Below.refl w.heap.size w)
  obtain ⟨m, hm⟩ : ∃ z, ls.length = z := ⟨_, rfl⟩
  rw [hm] at HRL HL ⊢
  obtain ⟨lg, hlg⟩ : ∃ z, decide (m ≤ 400) = z := ⟨_, rfl⟩
  rw [hlg] at HL
  clear hl hr hs hm hlg
  rcases lg with _ | _
  · clear hol hor hos lo hi
    go_enter Tryd.func4, Tryd.ntmps4
    go_wp2_with (first
      | (go_at_call 12; ((with_reducible refine (HL.out _).mono ?_); rintro e w1 ⟨rfl, hw1⟩); (have hw2 := hw1.symm; clear hw1; subst hw2))
      | (go_at_call 11; ((with_reducible refine (HAW.out _ HB.out).mono ?_); rintro e w2 ⟨rfl, hb⟩); have H2 := Lib.hid (below_on HB.out hb); clear hb))
    go_ret
    exact ⟨rfl, H2.out⟩
  have HPW := Lib.hid (show ∀ (f : F) (lk : Nat) (X : Option Addr) (cx : Nat) (u : World), f.len = lk → f.gd 4 → lk ≤ 3 → Below w.heap.size w u → SeesF u (· < u.heap.size) X f → Calls Tryd.prog 15 #[.int .i64 n, .slice X lk cx] u (GivesW u (wrB n f) (wrE n f)) ∧ Calls Tryd.prog 16 #[.int .i64 n, .slice X lk cx] u (GivesW u (wrB n f) (wrE n f)) from fun f lk X cx u h1 h2 h3 hb hx => by
    have hz := F.gd_size h2
    have hz2 : f.len * 4 ^ 4 ≤ 3 * 4 ^ 4 := Nat.mul_le_mul_right _ (by omega)
    exact ⟨S.wrap n f lk h1 X cx u (S.on ht hb) lo hi (by omega) (F.gd_ok h2) (F.gd_sm h2) hx, (r_wrap n f lk h1 X cx u (hg.on hb) lo hi (by omega) (F.gd_ok h2) (F.sm_sq (F.gd_sm h2)) (hx.small (F.gd_sm h2))).mono fun _ _ h => h.wide⟩)
  have HPC := Lib.hid (fun u (hb : Below w.heap.size w u) => S.common os os.length rfl hol B cb u (S.on ht hb) hor (SeesP.on2 hos hb))
  have HRC := Lib.hid (fun u (hb : Below w.heap.size w u) => (r_common os os.length rfl hol B cb u (hg.on hb) (SeesP.on2 hos hb)).mono fun _ _ h => GivesZ.wide h)
  have HPA := Lib.hid (fun u (hb : Below w.heap.size w u) => S.active n u (S.on ht hb))
  have HRA := Lib.hid (fun u (hb : Below w.heap.size w u) => (r_active n u (hg.on hb)).mono fun _ _ h => GivesZ.wide h)
  have HPB := Lib.hid (fun u (hb : Below w.heap.size w u) => S.active (pointZ n) u (S.on ht hb))
  have HRB := Lib.hid (fun u (hb : Below w.heap.size w u) => (r_active (pointZ n) u (hg.on hb)).mono fun _ _ h => GivesZ.wide h)
  obtain ⟨no, hno⟩ : ∃ z, os.length = z := ⟨_, rfl⟩
  rw [hno] at HPC HRC ⊢
  obtain ⟨pz, hpz⟩ : ∃ z, pointZ n = z := ⟨_, rfl⟩
  rw [hpz] at HPB HRB
  have hpoint := fun u => ref_point n u
  rw [hpz] at hpoint
  have HPT := Lib.hid hpoint
  obtain ⟨B2, b2⟩ : ∃ z, cmB os = z := ⟨_, rfl⟩
  obtain ⟨E2, e2⟩ : ∃ z, cmE os = z := ⟨_, rfl⟩
  obtain ⟨B3, b3⟩ : ∃ z, acB n = z := ⟨_, rfl⟩
  obtain ⟨E3, e3⟩ : ∃ z, acE n = z := ⟨_, rfl⟩
  obtain ⟨B4, b4⟩ : ∃ z, acB pz = z := ⟨_, rfl⟩
  obtain ⟨E4, e4⟩ : ∃ z, acE pz = z := ⟨_, rfl⟩
  rw [b2, e2] at HPC HRC
  rw [b3, e3] at HPA HRA
  rw [b4, e4] at HPB HRB
  have q2 := cmB_len os
  have q3 := acB_len n
  have q4 := acB_len pz
  rw [b2] at q2
  rw [b3] at q3
  rw [b4] at q4
  obtain ⟨k2, l2⟩ : ∃ z, B2.length = z := ⟨_, rfl⟩
  obtain ⟨k3, l3⟩ : ∃ z, B3.length = z := ⟨_, rfl⟩
  obtain ⟨k4, l4⟩ : ∃ z, B4.length = z := ⟨_, rfl⟩
  have HK2 := Lib.hid (show B2.length = k2 ∧ k2 ≤ maxLen from ⟨l2, by unfold maxLen; omega⟩)
  have HK3 := Lib.hid (show B3.length = k3 ∧ k3 ≤ maxLen from ⟨l3, by unfold maxLen; omega⟩)
  have HK4 := Lib.hid (show B4.length = k4 ∧ k4 ≤ maxLen from ⟨l4, by unfold maxLen; omega⟩)
  unfold GivesW at HPC HRC HPA HRA HPB HRB
  rw [l2] at HPC HRC
  rw [l3] at HPA HRA
  rw [l4] at HPB HRB
  have HND := Lib.hid (show ∀ D u, DiceOk u D → Calls Tryd.prog 14 #[.pointer (some ⟨D, 0, none⟩), .int .i64 4] u (NodesIs u D 4) from fun D u h => dice_nodes 4 (by decide) D 4 u (by decide) (by decide) h)
  have HBD := Lib.hid (show ∀ a D b, Below w.heap.size w a → w.heap.size ≤ D → a.grownBy b (some D) → Below w.heap.size w b from fun a D b h hd hg => h.grown hg h.size (fun g e => by injection e with e; omega))
  clear b2 b3 b4 e2 e3 e4 l2 l3 l4 q2 q3 q4 hno hpz hpoint ht hg hol hor hos lo hi
  go_enter Tryd.func4, Tryd.ntmps4
  go_wp2_with (first
    | (go_at_call 12; ((with_reducible refine (HL.out _).mono ?_); rintro e w1 ⟨rfl, hw1⟩); (have hw2 := hw1.symm; clear hw1; subst hw2))
    | (go_at_call 13; ((with_reducible refine HRL.out.mono ?_); rintro e w2 ⟨rfl, hd, hb⟩); have hD0 := Nat.le_refl w.heap.size; have H2a := Lib.hid hb; clear hb; generalize hDD : w.heap.size = D at hd ⊢; have H2 := Lib.hid (show Below w.heap.size w w2 ∧ DiceOk w2 D ∧ w.heap.size ≤ D from ⟨H2a.out, hd, Nat.le_of_eq hDD⟩); clear hd hD0 hDD H2a)
    | (go_at_call 14; ((with_reducible refine (HND.out D _ H2.out.2.1).mono ?_); rintro e w3 ⟨f, AF, cf, rfl, hgd, hlen, hsf, hgr, hdd⟩); go_loud (obtain ⟨lk, hlk⟩ : ∃ z, f.len = z := ⟨_, rfl⟩; rw [hlk]; have N3 := Lib.hid (show Below w.heap.size w w3 ∧ SeesF w3 (· < w3.heap.size) AF f from ⟨HBD.out _ D _ H2.out.1 H2.out.2.2 hgr, hsf.imp fun b hb => hb.2⟩); have HWW := Lib.hid (fun u (h1 : Below w.heap.size w u) (h2 : SeesF u (· < u.heap.size) AF f) => HPW.out f lk AF cf u hlk hgd (by omega) h1 h2); obtain ⟨B1, b1⟩ : ∃ z, wrB n f = z := ⟨_, rfl⟩; obtain ⟨E1, e1⟩ : ∃ z, wrE n f = z := ⟨_, rfl⟩; rw [b1, e1] at HWW; have q1 := wrB_len n f; rw [b1] at q1; obtain ⟨k1, l1⟩ : ∃ z, B1.length = z := ⟨_, rfl⟩; have HK1 := Lib.hid (show B1.length = k1 ∧ k1 ≤ maxLen from ⟨l1, (by unfold maxLen; omega)⟩); unfold GivesW at HWW; rw [l1] at HWW; clear hgd hlen hsf hgr hdd hlk b1 e1 q1 l1))
    | (go_at_call 20; ((with_reducible refine (HRB.out _ M7.out.1).mono ?_); rintro e v8 ⟨A8, c8, rfl, hs, hb⟩); have M8 := Lib.hid (show Below w.heap.size w v8 ∧ SeesP v8 (· < v8.heap.size) A1 (Us B1) ∧ SeesP v8 (· < v8.heap.size) A2 (Us B1) ∧ SeesP v8 (· < v8.heap.size) A3 (Us B2) ∧ SeesP v8 (· < v8.heap.size) A4 (Us B2) ∧ SeesP v8 (· < v8.heap.size) A5 (Us B3) ∧ SeesP v8 (· < v8.heap.size) A6 (Us B3) ∧ SeesP v8 (· < v8.heap.size) A7 (Us B4) ∧ SeesP v8 (· < v8.heap.size) A8 (Us B4) from ⟨below_on M7.out.1 hb, SeesP.on2 M7.out.2.1 hb, SeesP.on2 M7.out.2.2.1 hb, SeesP.on2 M7.out.2.2.2.1 hb, SeesP.on2 M7.out.2.2.2.2.1 hb, SeesP.on2 M7.out.2.2.2.2.2.1 hb, SeesP.on2 M7.out.2.2.2.2.2.2.1 hb, SeesP.on2 M7.out.2.2.2.2.2.2.2 hb, hs⟩); clear hs hb)
    | (go_at_call 19; ((with_reducible refine (HPB.out _ M6.out.1).mono ?_); rintro e v7 ⟨A7, c7, rfl, hs, hb⟩); have M7 := Lib.hid (show Below w.heap.size w v7 ∧ SeesP v7 (· < v7.heap.size) A1 (Us B1) ∧ SeesP v7 (· < v7.heap.size) A2 (Us B1) ∧ SeesP v7 (· < v7.heap.size) A3 (Us B2) ∧ SeesP v7 (· < v7.heap.size) A4 (Us B2) ∧ SeesP v7 (· < v7.heap.size) A5 (Us B3) ∧ SeesP v7 (· < v7.heap.size) A6 (Us B3) ∧ SeesP v7 (· < v7.heap.size) A7 (Us B4) from ⟨below_on M6.out.1 hb, SeesP.on2 M6.out.2.1 hb, SeesP.on2 M6.out.2.2.1 hb, SeesP.on2 M6.out.2.2.2.1 hb, SeesP.on2 M6.out.2.2.2.2.1 hb, SeesP.on2 M6.out.2.2.2.2.2.1 hb, SeesP.on2 M6.out.2.2.2.2.2.2 hb, hs⟩); clear hs hb)
    | (go_at_call 20; ((with_reducible refine (HRA.out _ M5.out.1).mono ?_); rintro e v6 ⟨A6, c6, rfl, hs, hb⟩); have M6 := Lib.hid (show Below w.heap.size w v6 ∧ SeesP v6 (· < v6.heap.size) A1 (Us B1) ∧ SeesP v6 (· < v6.heap.size) A2 (Us B1) ∧ SeesP v6 (· < v6.heap.size) A3 (Us B2) ∧ SeesP v6 (· < v6.heap.size) A4 (Us B2) ∧ SeesP v6 (· < v6.heap.size) A5 (Us B3) ∧ SeesP v6 (· < v6.heap.size) A6 (Us B3) from ⟨below_on M5.out.1 hb, SeesP.on2 M5.out.2.1 hb, SeesP.on2 M5.out.2.2.1 hb, SeesP.on2 M5.out.2.2.2.1 hb, SeesP.on2 M5.out.2.2.2.2.1 hb, SeesP.on2 M5.out.2.2.2.2.2 hb, hs⟩); clear hs hb)
    | (go_at_call 19; ((with_reducible refine (HPA.out _ M4.out.1).mono ?_); rintro e v5 ⟨A5, c5, rfl, hs, hb⟩); have M5 := Lib.hid (show Below w.heap.size w v5 ∧ SeesP v5 (· < v5.heap.size) A1 (Us B1) ∧ SeesP v5 (· < v5.heap.size) A2 (Us B1) ∧ SeesP v5 (· < v5.heap.size) A3 (Us B2) ∧ SeesP v5 (· < v5.heap.size) A4 (Us B2) ∧ SeesP v5 (· < v5.heap.size) A5 (Us B3) from ⟨below_on M4.out.1 hb, SeesP.on2 M4.out.2.1 hb, SeesP.on2 M4.out.2.2.1 hb, SeesP.on2 M4.out.2.2.2.1 hb, SeesP.on2 M4.out.2.2.2.2 hb, hs⟩); clear hs hb)
    | (go_at_call 18; ((with_reducible refine (HRC.out _ M3.out.1).mono ?_); rintro e v4 ⟨A4, c4, rfl, hs, hb⟩); have M4 := Lib.hid (show Below w.heap.size w v4 ∧ SeesP v4 (· < v4.heap.size) A1 (Us B1) ∧ SeesP v4 (· < v4.heap.size) A2 (Us B1) ∧ SeesP v4 (· < v4.heap.size) A3 (Us B2) ∧ SeesP v4 (· < v4.heap.size) A4 (Us B2) from ⟨below_on M3.out.1 hb, SeesP.on2 M3.out.2.1 hb, SeesP.on2 M3.out.2.2.1 hb, SeesP.on2 M3.out.2.2.2 hb, hs⟩); clear hs hb)
    | (go_at_call 17; ((with_reducible refine (HPC.out _ M2.out.1).mono ?_); rintro e v3 ⟨A3, c3, rfl, hs, hb⟩); have M3 := Lib.hid (show Below w.heap.size w v3 ∧ SeesP v3 (· < v3.heap.size) A1 (Us B1) ∧ SeesP v3 (· < v3.heap.size) A2 (Us B1) ∧ SeesP v3 (· < v3.heap.size) A3 (Us B2) from ⟨below_on M2.out.1 hb, SeesP.on2 M2.out.2.1 hb, SeesP.on2 M2.out.2.2 hb, hs⟩); clear hs hb)
    | (go_at_call 16; ((with_reducible refine ((HWW.out _ M1.out.1 F1.out).2).mono ?_); rintro e v2 ⟨A2, c2, rfl, hs, hb⟩); have M2 := Lib.hid (show Below w.heap.size w v2 ∧ SeesP v2 (· < v2.heap.size) A1 (Us B1) ∧ SeesP v2 (· < v2.heap.size) A2 (Us B1) from ⟨below_on M1.out.1 hb, SeesP.on2 M1.out.2 hb, hs⟩); clear hs hb)
    | (go_at_call 15; ((with_reducible refine ((HWW.out _ N3.out.1 N3.out.2).1).mono ?_); rintro e v1 ⟨A1, c1, rfl, hs, hb⟩); have F1 := Lib.hid (show SeesF v1 (· < v1.heap.size) AF f from SeesF.on N3.out.2 hb); have M1 := Lib.hid (show Below w.heap.size w v1 ∧ SeesP v1 (· < v1.heap.size) A1 (Us B1) from ⟨below_on N3.out.1 hb, hs⟩); clear hs hb)
    | (go_at_call 21; ((with_reducible refine (HPT.out _).mono ?_); rintro e wq ⟨rfl, hw⟩); (have hw2 := hw.symm; clear hw; subst hw2))
    | (go_at_call 11; ((with_reducible refine (HAW.out _ M8.out.1).mono ?_); rintro e x0 ⟨rfl, hb⟩); have Y0 := Lib.hid (show Below w.heap.size w x0 ∧ SeesP x0 (· < x0.heap.size) A1 (Us B1) ∧ SeesP x0 (· < x0.heap.size) A2 (Us B1) ∧ SeesP x0 (· < x0.heap.size) A3 (Us B2) ∧ SeesP x0 (· < x0.heap.size) A4 (Us B2) ∧ SeesP x0 (· < x0.heap.size) A5 (Us B3) ∧ SeesP x0 (· < x0.heap.size) A6 (Us B3) ∧ SeesP x0 (· < x0.heap.size) A7 (Us B4) ∧ SeesP x0 (· < x0.heap.size) A8 (Us B4) from ⟨below_on M8.out.1 hb, SeesP.on2 M8.out.2.1 hb, SeesP.on2 M8.out.2.2.1 hb, SeesP.on2 M8.out.2.2.2.1 hb, SeesP.on2 M8.out.2.2.2.2.1 hb, SeesP.on2 M8.out.2.2.2.2.2.1 hb, SeesP.on2 M8.out.2.2.2.2.2.2.1 hb, SeesP.on2 M8.out.2.2.2.2.2.2.2.1 hb, SeesP.on2 M8.out.2.2.2.2.2.2.2.2 hb⟩); clear hb)
    | (go_at_call 22; ((with_reducible refine (same_bs A7 A8 c7 c8 k4 B4 _ HK4.out.1 Y3.out.2.2.2.2.2.2.2.1 Y3.out.2.2.2.2.2.2.2.2 HK4.out.2).mono ?_); rintro e x4 ⟨rfl, hb⟩); have Y4 := Lib.hid (show Below w.heap.size w x4 ∧ SeesP x4 (· < x4.heap.size) A1 (Us B1) ∧ SeesP x4 (· < x4.heap.size) A2 (Us B1) ∧ SeesP x4 (· < x4.heap.size) A3 (Us B2) ∧ SeesP x4 (· < x4.heap.size) A4 (Us B2) ∧ SeesP x4 (· < x4.heap.size) A5 (Us B3) ∧ SeesP x4 (· < x4.heap.size) A6 (Us B3) ∧ SeesP x4 (· < x4.heap.size) A7 (Us B4) ∧ SeesP x4 (· < x4.heap.size) A8 (Us B4) from ⟨below_on Y3.out.1 hb, SeesP.on2 Y3.out.2.1 hb, SeesP.on2 Y3.out.2.2.1 hb, SeesP.on2 Y3.out.2.2.2.1 hb, SeesP.on2 Y3.out.2.2.2.2.1 hb, SeesP.on2 Y3.out.2.2.2.2.2.1 hb, SeesP.on2 Y3.out.2.2.2.2.2.2.1 hb, SeesP.on2 Y3.out.2.2.2.2.2.2.2.1 hb, SeesP.on2 Y3.out.2.2.2.2.2.2.2.2 hb⟩); clear hb)
    | (go_at_call 22; ((with_reducible refine (same_bs A5 A6 c5 c6 k3 B3 _ HK3.out.1 Y2.out.2.2.2.2.2.1 Y2.out.2.2.2.2.2.2.1 HK3.out.2).mono ?_); rintro e x3 ⟨rfl, hb⟩); have Y3 := Lib.hid (show Below w.heap.size w x3 ∧ SeesP x3 (· < x3.heap.size) A1 (Us B1) ∧ SeesP x3 (· < x3.heap.size) A2 (Us B1) ∧ SeesP x3 (· < x3.heap.size) A3 (Us B2) ∧ SeesP x3 (· < x3.heap.size) A4 (Us B2) ∧ SeesP x3 (· < x3.heap.size) A5 (Us B3) ∧ SeesP x3 (· < x3.heap.size) A6 (Us B3) ∧ SeesP x3 (· < x3.heap.size) A7 (Us B4) ∧ SeesP x3 (· < x3.heap.size) A8 (Us B4) from ⟨below_on Y2.out.1 hb, SeesP.on2 Y2.out.2.1 hb, SeesP.on2 Y2.out.2.2.1 hb, SeesP.on2 Y2.out.2.2.2.1 hb, SeesP.on2 Y2.out.2.2.2.2.1 hb, SeesP.on2 Y2.out.2.2.2.2.2.1 hb, SeesP.on2 Y2.out.2.2.2.2.2.2.1 hb, SeesP.on2 Y2.out.2.2.2.2.2.2.2.1 hb, SeesP.on2 Y2.out.2.2.2.2.2.2.2.2 hb⟩); clear hb)
    | (go_at_call 22; ((with_reducible refine (same_bs A3 A4 c3 c4 k2 B2 _ HK2.out.1 Y1.out.2.2.2.1 Y1.out.2.2.2.2.1 HK2.out.2).mono ?_); rintro e x2 ⟨rfl, hb⟩); have Y2 := Lib.hid (show Below w.heap.size w x2 ∧ SeesP x2 (· < x2.heap.size) A1 (Us B1) ∧ SeesP x2 (· < x2.heap.size) A2 (Us B1) ∧ SeesP x2 (· < x2.heap.size) A3 (Us B2) ∧ SeesP x2 (· < x2.heap.size) A4 (Us B2) ∧ SeesP x2 (· < x2.heap.size) A5 (Us B3) ∧ SeesP x2 (· < x2.heap.size) A6 (Us B3) ∧ SeesP x2 (· < x2.heap.size) A7 (Us B4) ∧ SeesP x2 (· < x2.heap.size) A8 (Us B4) from ⟨below_on Y1.out.1 hb, SeesP.on2 Y1.out.2.1 hb, SeesP.on2 Y1.out.2.2.1 hb, SeesP.on2 Y1.out.2.2.2.1 hb, SeesP.on2 Y1.out.2.2.2.2.1 hb, SeesP.on2 Y1.out.2.2.2.2.2.1 hb, SeesP.on2 Y1.out.2.2.2.2.2.2.1 hb, SeesP.on2 Y1.out.2.2.2.2.2.2.2.1 hb, SeesP.on2 Y1.out.2.2.2.2.2.2.2.2 hb⟩); clear hb)
    | (go_at_call 22; ((with_reducible refine (same_bs A1 A2 c1 c2 k1 B1 _ HK1.out.1 Y0.out.2.1 Y0.out.2.2.1 HK1.out.2).mono ?_); rintro e x1 ⟨rfl, hb⟩); have Y1 := Lib.hid (show Below w.heap.size w x1 ∧ SeesP x1 (· < x1.heap.size) A1 (Us B1) ∧ SeesP x1 (· < x1.heap.size) A2 (Us B1) ∧ SeesP x1 (· < x1.heap.size) A3 (Us B2) ∧ SeesP x1 (· < x1.heap.size) A4 (Us B2) ∧ SeesP x1 (· < x1.heap.size) A5 (Us B3) ∧ SeesP x1 (· < x1.heap.size) A6 (Us B3) ∧ SeesP x1 (· < x1.heap.size) A7 (Us B4) ∧ SeesP x1 (· < x1.heap.size) A8 (Us B4) from ⟨below_on Y0.out.1 hb, SeesP.on2 Y0.out.2.1 hb, SeesP.on2 Y0.out.2.2.1 hb, SeesP.on2 Y0.out.2.2.2.1 hb, SeesP.on2 Y0.out.2.2.2.2.1 hb, SeesP.on2 Y0.out.2.2.2.2.2.1 hb, SeesP.on2 Y0.out.2.2.2.2.2.2.1 hb, SeesP.on2 Y0.out.2.2.2.2.2.2.2.1 hb, SeesP.on2 Y0.out.2.2.2.2.2.2.2.2 hb⟩); clear hb))
  go_ret
  exact ⟨by first | rfl | simp, Y4.out.1⟩
end Go.Proofs.YtkgfdbbdmchmeaaDoor
