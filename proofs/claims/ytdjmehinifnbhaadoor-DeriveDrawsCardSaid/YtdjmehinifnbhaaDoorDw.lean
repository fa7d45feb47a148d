/-
  What is proved here: what Draw of the program and of the reference answers, for bytes that lie in memory, where the digest's tables lie there too.
-/
import Derived.Test.YtdjmehinifnbhaaDoorDr
namespace Go.Proofs.YtdjmehinifnbhaaDoor
open Go.RowKit
set_option linter.unusedVariables false

/-- bytes, bytes and a code -/
def GivesD (w : World) (n m : Nat) (l nx : List UInt8) (er : Int) (e : Ending) (w' : World) : Prop := ∃ A c B d, e = .returned (.tuple #[.slice A n c, .slice B m d, .int .i64 er]) ∧ n ≤ c ∧ SeesP w' (· < w'.heap.size) A (Us l) ∧ SeesP w' (· < w'.heap.size) B (Us nx) ∧ Below w.heap.size w w'
theorem givesD_nil (w : World) (r : Int) : GivesD w 0 0 [] [] r (.returned (.tuple #[.slice none 0 0, .slice none 0 0, .int .i64 r])) w := ⟨none, 0, none, 0, rfl, Nat.le_refl _, .inl rfl, .inl rfl, Below.refl _ _⟩
def drB (x : List UInt8) (n : Int) : List UInt8 := if n < 0 ∨ 1024 < n then [] else drawL x n.toNat
def drX (x : List UInt8) (n : Int) : List UInt8 := if n < 0 ∨ 1024 < n then [] else nextL x
def drN (n : Int) : Nat := if n < 0 ∨ 1024 < n then 0 else n.toNat
def drM (n : Int) : Nat := if n < 0 ∨ 1024 < n then 0 else 32
def drE (n : Int) : Int := if n < 0 ∨ 1024 < n then 2 else 0
theorem dr_bad {x : List UInt8} {n : Int} (h : n < 0 ∨ 1024 < n) : drB x n = [] ∧ drX x n = [] ∧ drN n = 0 ∧ drM n = 0 ∧ drE n = 2 := by
  unfold drB drX drN drM drE
  rw [if_pos h, if_pos h, if_pos h, if_pos h, if_pos h]
  exact ⟨rfl, rfl, rfl, rfl, rfl⟩
theorem dr_good {x : List UInt8} {n : Nat} (h : n ≤ 1024) : drB x n = drawL x n ∧ drX x n = nextL x ∧ drN n = n ∧ drM n = 32 ∧ drE n = 0 := by
  have : ¬ ((n : Int) < 0 ∨ 1024 < (n : Int)) := by omega
  unfold drB drX drN drM drE
  rw [if_neg this, if_neg this, if_neg this, if_neg this, if_neg this]
  exact ⟨rfl, rfl, rfl, rfl, rfl⟩
theorem next_hyp {x : List UInt8} {a : Nat} (hx : x.length = a) (hl : a ≤ 140737488351300) : (x ++ [0]).length ≤ 140737488351500 := by
  rw [List.length_append, hx]; simp; omega
set_option maxHeartbeats 400000 in
theorem draw_yes {x : List UInt8} {A : Option Addr} {a n c : Nat} {w : World} (hx : x.length = a) (hn : n ≤ 1024) (hl : a ≤ 140737488351300) (hs : SeesP w (· < w.heap.size) A (Us x)) (ht : TabA w) :
    Calls Tryd.prog 11 #[.slice A a c, .int .i64 (n : Int)] w (GivesD w n 32 (drawL x n) (nextL x) 0) := by
  have H := Lib.hid (show _ ∧ _ ∧ _ ∧ _ from ⟨hx, hl, hs, ht⟩)
  have d1 : decide ((n : Int) < 0) = false := by simp
  have d2 : decide ((1024 : Int) < (n : Int)) = false := by simp; omega
  clear hx hl hs ht
  go_enter Tryd.func11, Tryd.ntmps11
  go_wp2_with (first
    | (go_at_call 20; ((with_reducible refine (drawn_ok H.out.1 hn H.out.2.1 H.out.2.2.1 H.out.2.2.2).mono ?_); rintro e w1 ⟨A1, c1, rfl, l1, n1, s1, b1⟩); have H1 := Lib.hid (show _ ∧ _ ∧ _ from ⟨l1, s1, b1⟩); clear l1 n1 s1 b1)
    | (go_at_call 15; ((with_reducible refine (digested2g (by simp) H.out.1 zero_len rfl (next_hyp H.out.1 H.out.2.1) ((H.out.2.2.1.ony H1.out.2.2).ony (below_al w1 _)) sees_zero ((H.out.2.2.2.below H1.out.2.2).below (below_al w1 _))).mono ?_); rintro e w2 ⟨A2, c2, rfl, l2, n2, s2, b2⟩); have H2 := Lib.hid (show _ ∧ _ ∧ _ from ⟨H1.out.2.1.ony (below_on (below_al w1 _) b2), s2, below_on H1.out.2.2 (below_on (below_al w1 _) b2)⟩); clear l2 n2 s2 b2))
  go_ret3
  exact ⟨_, _, _, _, rfl, H1.out.1, H2.out.1, H2.out.2.1, H2.out.2.2⟩
theorem draw_all {x : List UInt8} {A : Option Addr} {a c : Nat} {n : Int} {w : World} (hx : x.length = a) (hl : a ≤ 140737488351300) (hs : SeesP w (· < w.heap.size) A (Us x)) (ht : TabA w) :
    Calls Tryd.prog 11 #[.slice A a c, .int .i64 n] w (GivesD w (drN n) (drM n) (drB x n) (drX x n) (drE n)) := by
  by_cases h : n < 0 ∨ 1024 < n
  · have HG := Lib.hid (givesD_nil w 2)
    rw [(dr_bad (x := x) h).1, (dr_bad (x := x) h).2.1, (dr_bad (x := x) h).2.2.1, (dr_bad (x := x) h).2.2.2.1, (dr_bad (x := x) h).2.2.2.2]
    clear hx hl hs ht
    by_cases h2 : n < 0
    · have d1 : decide (n < 0) = true := by simpa using h2
      clear h
      go_enter Tryd.func11, Tryd.ntmps11
      go_wp2
      go_ret3
      exact HG.out
    · have d1 : decide (n < 0) = false := by simpa using h2
      have d2 : decide (1024 < n) = true := by simp; omega
      clear h h2
      go_enter Tryd.func11, Tryd.ntmps11
      go_wp2
      go_ret3
      exact HG.out
  · obtain ⟨k, rfl⟩ := Int.eq_ofNat_of_zero_le (show 0 ≤ n from by omega)
    have hk : k ≤ 1024 := by omega
    rw [(dr_good (x := x) hk).1, (dr_good (x := x) hk).2.1, (dr_good (x := x) hk).2.2.1, (dr_good (x := x) hk).2.2.2.1, (dr_good (x := x) hk).2.2.2.2]
    exact draw_yes hx hk hl hs ht

theorem own_one (W : World) : (W.alloc (.cells #[.int .u8 1] 5)).ownsRow W.heap.size 5 1 (.slice (some ⟨W.heap.size, 0, none⟩) 1 1) 1 (Us [1]) :=
  ⟨rfl, .inr ⟨W.heap.size, 1, #[.int .u8 1], rfl, Nat.le_refl _, heap_alloc_new W _, Nat.le_refl _, by decide, rfl, rfl⟩⟩
theorem five_len (k : Nat) : ([1] ++ four k).length = 5 := by rw [List.length_append, four_len]; rfl
theorem sees_own5 {w : World} {base : Nat} {A : Option Addr} {n c : Nat} {l : List UInt8} (h : w.ownsRow base 5 1 (.slice A n c) n (Us l)) : SeesP w (· < w.heap.size) A (Us l) := SeesP.iff_sees.2 (Sees.of_own h)
theorem own_nil0 {w : World} {base : Nat} {A : Option Addr} {n c : Nat} {xs : List Value} (h : w.ownsRow base 5 1 (.slice A n c) n xs) : A = none → c = 0 := by
  intro e
  subst e
  rcases h.2 with ⟨h1, h2⟩ | ⟨g, cap, cur, h1, _⟩
  · injection h1
  · cases h1
/-- behind the last round: what is handed back -/
theorem DrR.fin {w wr : World} {x : List UInt8} {N k n : Nat} {B : Option Addr} {c : Nat} (h : DrR w x N k (.slice B N c) wr) (hk : k = (n + 31) / 32) (hn : n ≤ N) : n ≤ c ∧ SeesP wr (· < wr.heap.size) B (Us (drawL x n)) ∧ Below w.heap.size w wr := by
  refine ⟨by have := own_caps h.1; omega, ?_, h.2.2⟩
  rw [drawL, ← hk]
  exact (sees_own5 h.1).first n
set_option maxRecDepth 40000 in
set_option maxHeartbeats 1000000 in
theorem ref_draw_yes {x : List UInt8} {A : Option Addr} {a n c : Nat} {w : World} (hx : x.length = a) (hn : n ≤ 1024) (hl : a ≤ 140737488351300) (ha : A = none → c = 0) (hs : SeesP w (· < w.heap.size) A (Us x)) (ht : TabR w) :
    Calls Tryd.prog 12 #[.slice A a c, .int .i64 (n : Int)] w (GivesD w n 32 (drawL x n) (nextL x) 0) := by
  obtain ⟨i0, hi, hz0, hz1, hz2⟩ := info_parts info_u8
  have H := Lib.hid (show _ ∧ _ ∧ _ ∧ _ ∧ _ from ⟨hx, hl, ha, hs, ht⟩)
  have d1 : decide ((n : Int) < 0) = false := by simp
  have d2 : decide ((1024 : Int) < (n : Int)) = false := by simp; omega
  obtain ⟨K, hK⟩ : ∃ K, K = (n + 31) / 32 := ⟨_, rfl⟩
  have HK := Lib.hid hK
  have hK1 : n ≤ 32 * K ∧ 32 * K ≤ n + 31 := by omega
  obtain ⟨hK1, hK2⟩ := hK1
  clear hx hs ht ha hK
  go_enter Tryd.func12, Tryd.ntmps12
  go_wp2_with fail
  clear d1 d2
  go_loopw [7, 8] (fun v i wr => ∃ (k N : Nat), k ≤ K ∧ i = .int .i64 (k : Int) ∧ Hid (DrR w x N k v wr)) (fun _ i _ => K - (intOf i).toNat)
  case atStart => exact ⟨0, 0, Nat.zero_le _, rfl, Lib.hid (DrR.start w x)⟩
  case round =>
    obtain ⟨k, N, hk, rfl, HR⟩ := hrel
    obtain ⟨B, cB, rfl⟩ := own_len HR.out.1
    by_cases hlt : k < K
    · have h1 : N < n := by have := HR.out.2.1; omega
      have hk32 : k ≤ 4294967296 := by omega
      have HL := Lib.hid (show (x ++ ([1] ++ four k)).length = a + 5 from by rw [List.length_append, List.length_append, four_len, H.out.1]; rfl)
      obtain ⟨p, hp⟩ : ∃ p, p = pieceL x k := ⟨_, rfl⟩
      have HP := Lib.hid (show sumL (x ++ ([1] ++ four k)) = p ∧ p.length = 32 ∧ p = pieceL x k from ⟨by rw [hp, pieceL], by rw [hp, pieceL, sumL_len], hp⟩)
      clear hp
      have HRB := Lib.hid HR.out.2.2
      go_wp2_with (first
        | (go_at_call 19; ((with_reducible refine (ref_four hk32).mono ?_); rintro e w1 ⟨A1, c1, rfl, g1, n1, s1, b1⟩); have H1 := Lib.hid (show _ ∧ _ ∧ _ ∧ _ from ⟨s1, below_on (below_al wr _) b1, own_on (own_one wr) b1, n1⟩); clear g1 n1 s1 b1)
        | (at_builtin; (refine app_bytes rfl (.tmp 23) (.tmp 25) 22 rfl wr.heap.size 5 i0 (.int .u8 0) Tryd.underlying22 hi hz0 hz1 hz2 rfl (.slice (some ⟨wr.heap.size, 0, none⟩) 1 1) 1 (Us [1]) rfl H1.out.2.2.1 A1 c1 (four k) _ (by rw [four_len]; rfl) H1.out.2.2.2 H1.out.1 (by unfold maxLen; rw [four_len]; omega) (by rw [four_len]; omega) H1.out.2.1.size ?_; rw [four_len, ← Us_append]; intro v2 w2 ho hg; obtain ⟨B2, c2, rfl⟩ := own_len ho; have H2 := Lib.hid (show _ ∧ _ ∧ _ from ⟨sees_own5 ho, own_nil0 ho, below_own H1.out.2.1 H1.out.2.2.1 hg⟩); clear ho hg))
        | (go_at_call 18; ((with_reducible refine (ref_join H.out.1 (five_len k) H.out.2.2.1 H2.out.2.1 (by have := H.out.2.1; omega) (H.out.2.2.2.1.ony (below_on HRB.out H2.out.2.2)) H2.out.1).mono ?_); rintro e w3 ⟨A3, c3, rfl, l3, n3, s3, b3⟩); have H3 := Lib.hid (show _ ∧ _ ∧ _ from ⟨n3, s3, below_on H2.out.2.2 b3⟩); clear l3 n3 s3 b3)
        | (go_at_call 17; ((with_reducible refine (ref_sumN HL.out (by have := H.out.2.1; omega) H3.out.1 H3.out.2.1 (H.out.2.2.2.2.below (below_on HRB.out H3.out.2.2))).mono ?_); rintro e w4 ⟨A4, c4, rfl, l4, n4, s4, b4⟩); have H4 := Lib.hid (show _ ∧ _ ∧ _ from ⟨n4, s4, below_on H3.out.2.2 b4⟩); clear l4 n4 s4 b4)
        | (at_builtin; refine app_bytes rfl (.tmp 21) (.tmp 28) 22 rfl w.heap.size 5 i0 (.int .u8 0) Tryd.underlying22 hi hz0 hz1 hz2 rfl (.slice B N cB) N (Us (streamL x k)) rfl (own_on HR.out.1 H4.out.2.2) A4 c4 p _ (by rw [HP.out.2.1]; rfl) H4.out.1 (by rw [← HP.out.1]; exact H4.out.2.1) (by unfold maxLen; rw [HP.out.2.1]; omega) (by rw [HP.out.2.1]; omega) (Nat.le_trans HR.out.2.2.size H4.out.2.2.size) ?_; rw [HP.out.2.1]; intro v5 w5 ho hg; obtain ⟨B5, c5, rfl⟩ := own_len ho; have H5 := Lib.hid (HR.out.next H4.out.2.2 HP.out.2.2 ho hg); clear ho hg))
      go_roundw
      case rel => exact ⟨k + 1, N + 32, by omega, by go_num, H5⟩
      case measure => simp [intOf]; omega
    · have h1 : ¬ N < n := by have := HR.out.2.1; omega
      obtain rfl : k = K := by omega
      have hcap : n ≤ cB := by have := own_caps HR.out.1; omega
      have HF := Lib.hid (HR.out.fin HK.out (by omega))
      have HX := Lib.hid (show (x ++ [0]).length = a + 1 from by rw [List.length_append, H.out.1]; rfl)
      clear HR hk hlt
      go_wp2_with fail
      have HD := Lib.hid (show Below wr.heap.size wr wr.drew from (Below.refl _ _).drew)
      refine wp_region_held_drew (S := Below wr.heap.size wr) (by kernel_rfl) HD.out (fun hHeld => ?_)
      refine wpAnyH_take (i := 0) (v := _) rfl (by kernel_rfl) (by kernel_rfl) (by kernel_rfl) (fun _ _ _ h => h) (Or.inl ⟨by rfl, (by intro w hSw; go_simp; first | done | with_reducible rfl)⟩) hHeld ?_
      simp only [Act.put]
      refine wpAnyH_take (i := 1) (v := _) rfl (by kernel_rfl) (by kernel_rfl) (by kernel_rfl) (fun _ _ _ h => h) (Or.inl ⟨by rfl, (by intro w hSw; go_simp; first | done | with_reducible rfl)⟩) hHeld ?_
      simp only [Act.put]
      refine wpAnyH_take (i := 2) (v := _) rfl (by kernel_rfl) (by kernel_rfl) (by kernel_rfl) (fun _ _ _ h => h) (Or.inl ⟨by rfl, (by intro w hSw; go_simp; first | done | with_reducible rfl)⟩) hHeld ?_
      simp only [Act.put]
      refine wpAnyH_take (i := 3) (v := _) rfl (by kernel_rfl) (by kernel_rfl) (by kernel_rfl) (fun _ _ _ h => h) (Or.inl ⟨by rfl, (by intro w hSw; go_simp; first | done | with_reducible rfl)⟩) hHeld ?_
      simp only [Act.put]
      refine wpAnyH_ready (rs := [4]) (by kernel_rfl) (by simp) ?_
      refine AllReadyH.cons rfl (fun K hK => ?_) AllReadyH.nil
      go_simp
      have hs1 : SeesP (wr.alloc (.cells #[.int .u8 0] 5)).drew (· < (wr.alloc (.cells #[.int .u8 0] 5)).drew.heap.size) (some ⟨wr.heap.size, 0, none⟩) (Us [0]) := sees_zero
      have hb1 : Below wr.heap.size wr (wr.alloc (.cells #[.int .u8 0] 5)).drew := (below_al wr _).drew
      generalize hw1 : (wr.alloc (.cells #[.int .u8 0] 5)).drew = w1 at hs1 hb1 ⊢
      clear hw1
      have H1 := Lib.hid (And.intro hs1 hb1)
      clear hs1 hb1
      refine hK.out _ _ H1.out.2 (fun hHeld => ?_)
      clear hK K
      have HRB := Lib.hid HF.out.2.2
      refine wpAnyH_ready (rs := [5]) (by kernel_rfl) (by simp) ?_
      refine AllReadyH.cons rfl (fun K hK => ?_) AllReadyH.nil
      go_simp
      go_wp2_with (go_at_call 18; ((with_reducible refine (ref_join H.out.1 zero_len H.out.2.2.1 (fun e => by cases e) (by have := H.out.2.1; omega) (H.out.2.2.2.1.ony (below_on HRB.out H1.out.2)) H1.out.1).mono ?_); rintro e w2 ⟨A2, c2, rfl, l2, n2, s2, b2⟩); have H2 := Lib.hid (show _ ∧ _ ∧ _ from ⟨n2, s2, below_on H1.out.2 b2⟩); clear l2 n2 s2 b2)
      refine hK.out _ _ H2.out.2.2 (fun hHeld => ?_)
      clear hK K
      refine wpAnyH_ready (rs := [6]) (by kernel_rfl) (by simp) ?_
      refine AllReadyH.cons rfl (fun K hK => ?_) AllReadyH.nil
      go_simp
      go_wp2_with (go_at_call 17; ((with_reducible refine (ref_sumN HX.out (by have := H.out.2.1; omega) H2.out.1 H2.out.2.1 (H.out.2.2.2.2.below (below_on HRB.out H2.out.2.2))).mono ?_); rintro e w3 ⟨A3, c3, rfl, l3, n3, s3, b3⟩); have H3 := Lib.hid (show _ ∧ _ from ⟨s3, below_on H2.out.2.2 b3⟩); clear l3 n3 s3 b3)
      refine hK.out _ _ H3.out.2 (fun hHeld => ?_)
      clear hK K
      refine wpAnyH_ready (rs := [7]) (by kernel_rfl) (by simp) ?_
      refine AllReadyH.cons rfl (fun K hK => ?_) AllReadyH.nil
      go_simp
      refine hK.out _ _ H3.out.2 (fun hHeld => ?_)
      clear hK K
      refine wpAnyH_ready (rs := [8]) (by kernel_rfl) (by simp) ?_
      refine AllReadyH.cons rfl (fun K hK => ?_) AllReadyH.nil
      go_simp
      refine hK.out _ _ H3.out.2 (fun hHeld => ?_)
      clear hK K
      refine wpAnyH_ready (rs := [9]) (by kernel_rfl) (by simp) ?_
      refine AllReadyH.cons rfl (fun K hK => ?_) AllReadyH.nil
      go_simp
      refine hK.out _ _ H3.out.2 (fun hHeld => ?_)
      clear hK K
      refine wpAnyH_done (by kernel_rfl) ?_ _
      go_wp2_with fail
      go_ret3
      exact ⟨B, cB, A3, c3, rfl, HF.out.1, HF.out.2.1.ony H3.out.2, H3.out.1, below_on HF.out.2.2 H3.out.2⟩
theorem ref_draw_all {x : List UInt8} {A : Option Addr} {a c : Nat} {n : Int} {w : World} (hx : x.length = a) (hl : a ≤ 140737488351300) (ha : A = none → c = 0) (hs : SeesP w (· < w.heap.size) A (Us x)) (ht : TabR w) :
    Calls Tryd.prog 12 #[.slice A a c, .int .i64 n] w (GivesD w (drN n) (drM n) (drB x n) (drX x n) (drE n)) := by
  by_cases h : n < 0 ∨ 1024 < n
  · have HG := Lib.hid (givesD_nil w 2)
    rw [(dr_bad (x := x) h).1, (dr_bad (x := x) h).2.1, (dr_bad (x := x) h).2.2.1, (dr_bad (x := x) h).2.2.2.1, (dr_bad (x := x) h).2.2.2.2]
    clear hx hl hs ht
    by_cases h2 : n < 0
    · have d1 : decide (n < 0) = true := by simpa using h2
      clear h
      go_enter Tryd.func12, Tryd.ntmps12
      go_wp2
      go_ret3
      exact HG.out
    · have d1 : decide (n < 0) = false := by simpa using h2
      have d2 : decide (1024 < n) = true := by simp; omega
      clear h h2
      go_enter Tryd.func12, Tryd.ntmps12
      go_wp2
      go_ret3
      exact HG.out
  · obtain ⟨k, rfl⟩ := Int.eq_ofNat_of_zero_le (show 0 ≤ n from by omega)
    have hk : k ≤ 1024 := by omega
    rw [(dr_good (x := x) hk).1, (dr_good (x := x) hk).2.1, (dr_good (x := x) hk).2.2.1, (dr_good (x := x) hk).2.2.2.1, (dr_good (x := x) hk).2.2.2.2]
    exact ref_draw_yes hx hk hl ha hs ht

end Go.Proofs.YtdjmehinifnbhaaDoor
