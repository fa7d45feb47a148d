/-
  What is proved here: what the reference's Four, Join, Key, Draw and Number answer, for bytes that lie in memory, where the digest's tables lie there too.
-/
import Derived.Test.YtdjmehinifnbhaaDoorDv
import Derived.Test.YtdjmehinifnbhaaDoorSmr
import Derived.Deep.RegionHeld3
namespace Go.Proofs.YtdjmehinifnbhaaDoor
open Go.RowKit
set_option linter.unusedVariables false

theorem four_eq (n : Nat) : four n = [UInt8.ofNat (n / 16777216), UInt8.ofNat (n / 65536), UInt8.ofNat (n / 256), UInt8.ofNat n] := by
  simp [four, octL, octAt, List.range_succ]
theorem four_us (n : Nat) : Us (four n) = [.int .u8 ((n : Int) / 16777216 % 256), .int .u8 ((n : Int) / 65536 % 256), .int .u8 ((n : Int) / 256 % 256), .int .u8 ((n : Int) % 256)] := by
  rw [four_eq]
  simp [Us, U]
theorem sees_row {wr : World} {t : TypeId} {fr : Nat × Nat} {cs : List Value} {l : List UInt8} (h : Us l = cs) : SeesP (wr.alloc (.cells cs.toArray t fr)) (· < (wr.alloc (.cells cs.toArray t fr)).heap.size) (some ⟨wr.heap.size, 0, none⟩) (Us l) := by
  subst h
  exact sees_lit wr l t fr
theorem ref_four {n : Nat} {w : World} (hn : n ≤ 4294967296) : Calls Tryd.prog 19 #[.int .i64 (n : Int)] w (MkN w 4 (four n)) := by
  have H := Lib.hid hn
  go_enter Tryd.func19, Tryd.ntmps19
  go_wp2
  go_ret
  exact ⟨_, 4, rfl, Nat.le_refl _, (fun e => by cases e), sees_row (four_us n), below_al _ _⟩
theorem ref_join {x y : List UInt8} {A B : Option Addr} {a b ca cb : Nat} {w : World} (hx : x.length = a) (hy : y.length = b) (hn1 : A = none → ca = 0) (hn2 : B = none → cb = 0) (hl : a + b ≤ 140737488351500) (h1 : SeesP w (· < w.heap.size) A (Us x)) (h2 : SeesP w (· < w.heap.size) B (Us y)) :
    Calls Tryd.prog 18 #[.slice A a ca, .slice B b cb] w (MkN w (a + b) (x ++ y)) := by
  obtain ⟨i0, hi, hz0, hz1, hz2⟩ := info_parts info_u8
  have H := Lib.hid (show _ ∧ _ ∧ _ ∧ _ ∧ _ ∧ _ from ⟨hx, hy, hn1, hn2, h1, h2⟩)
  clear hx hy hn1 hn2 h1 h2
  go_enter Tryd.func18, Tryd.ntmps18
  go_wp2_with (first
    | (at_builtin; refine app_bytes rfl (.const (.slice none 0 0)) (.tmp 5) 22 rfl w.heap.size 5 i0 (.int .u8 0) Tryd.underlying22 hi hz0 hz1 hz2 rfl (.slice none 0 0) 0 [] rfl (World.ownsRow_nil _ _ _ _) A ca x _ (by rw [H.out.1]; rfl) H.out.2.2.1 H.out.2.2.2.2.1 (by unfold maxLen; rw [H.out.1]; omega) (by rw [H.out.1]; omega) (Nat.le_refl _) ?_; rw [H.out.1, Nat.zero_add, List.nil_append]; intro v1 w1 ho hg; obtain ⟨B1, c1, rfl⟩ := own_len ho; have H1 := Lib.hid (show _ ∧ Below w.heap.size w w1 from ⟨ho, (Below.refl _ w).grown hg (Nat.le_refl _) (by simp [Value.ownBlock])⟩); clear ho hg)
    | (at_builtin; refine app_bytes rfl (.tmp 6) (.tmp 7) 22 rfl w.heap.size 5 i0 (.int .u8 0) Tryd.underlying22 hi hz0 hz1 hz2 rfl (.slice B1 a c1) a _ rfl H1.out.1 B cb y _ (by rw [H.out.2.1]; rfl) H.out.2.2.2.1 (H.out.2.2.2.2.2.ony H1.out.2) (by unfold maxLen; rw [H.out.2.1]; omega) (by rw [H.out.2.1]; omega) H1.out.2.size ?_; rw [H.out.2.1]; intro v2 w2 ho hg; obtain ⟨B2, c2, rfl⟩ := own_len ho; have H2 := Lib.hid (show _ ∧ Below w.heap.size w w2 from ⟨ho, below_own H1.out.2 H1.out.1 hg⟩); clear ho hg))
  go_ret
  exact mkN_of (by rw [List.length_append, H.out.1, H.out.2.1]) (mk_own (by rw [Us_append]; exact H2.out.1) H2.out.2 (by rw [List.length_append, H.out.1, H.out.2.1]))
theorem ref_sumN {l : List UInt8} {A : Option Addr} {n c : Nat} {w : World} (hn : l.length = n) (hl : n ≤ 140737488351500) (hc : A = none → c = 0) (hs : SeesP w (· < w.heap.size) A (Us l)) (ht : TabR w) :
    Calls Tryd.prog 17 #[.slice A n c] w (MkN w 32 (sumL l)) := by
  subst hn
  exact (ref_sum l A c w hl hc hs ht).mono fun _ _ h => mkN_of (sumL_len l) h

set_option maxHeartbeats 400000 in
theorem ref_key_yes {x : List UInt8} {A : Option Addr} {n u c : Nat} {w : World} (hn : x.length = n) (hu : u ≤ 65535) (hl : n ≤ 140737488351300) (ha : A = none → c = 0) (hs : SeesP w (· < w.heap.size) A (Us x)) (ht : TabR w) :
    Calls Tryd.prog 8 #[.slice A n c, .int .i64 (u : Int)] w (GivesN w 16 (keyL x u) 0) := by
  have H := Lib.hid (show _ ∧ _ ∧ _ ∧ _ ∧ _ ∧ _ from ⟨hn, hu, hl, ha, hs, ht⟩)
  have d1 : decide ((u : Int) < 0) = false := by simp
  have d2 : decide ((65535 : Int) < (u : Int)) = false := by simp; omega
  have HL := Lib.hid (show (x ++ four u).length = n + 4 from by rw [List.length_append, four_len, hn])
  clear hn hu hl ha hs ht
  go_enter Tryd.func8, Tryd.ntmps8
  go_wp2_with (first
    | (go_at_call 19; ((with_reducible refine (ref_four (show u ≤ 4294967296 by have := H.out.2.1; omega)).mono ?_); rintro e w1 ⟨A1, c1, rfl, g1, n1, h1, h2⟩); have H1 := Lib.hid (show _ ∧ _ ∧ _ from ⟨h1, h2, n1⟩); clear g1 n1 h1 h2)
    | (go_at_call 18; ((with_reducible refine (ref_join H.out.1 (four_len u) H.out.2.2.2.1 H1.out.2.2 (by have := H.out.2.2.1; omega) (H.out.2.2.2.2.1.ony H1.out.2.1) H1.out.1).mono ?_); rintro e w2 ⟨A2, c2, rfl, h1, h3, h4, h5⟩); have H2 := Lib.hid (show _ ∧ _ ∧ _ from ⟨h3, h4, below_on H1.out.2.1 h5⟩); clear h1 h3 h4 h5)
    | (go_at_call 17; ((with_reducible refine (ref_sumN HL.out (by have := H.out.2.2.1; omega) H2.out.1 H2.out.2.1 (H.out.2.2.2.2.2.below H2.out.2.2)).mono ?_); rintro e w3 ⟨A3, c3, rfl, h1, h3, h4, h5⟩); have H3 := Lib.hid (And.intro h4 (below_on H2.out.2.2 h5)); have h16 : 16 ≤ c3 := (by omega); clear h3 h4 h5))
  go_ret2
  exact ⟨_, _, rfl, H3.out.1.first 16, H3.out.2⟩
theorem ref_key_all {x : List UInt8} {A : Option Addr} {n c : Nat} {u : Int} {w : World} (hn : x.length = n) (hl : n ≤ 140737488351300) (ha : A = none → c = 0) (hs : SeesP w (· < w.heap.size) A (Us x)) (ht : TabR w) :
    Calls Tryd.prog 8 #[.slice A n c, .int .i64 u] w (GivesN w (keyN u) (keyB x u) (keyE u)) := by
  by_cases h : u < 0 ∨ 65535 < u
  · have HG := Lib.hid (givesN_nil w 3)
    rw [(key_bad (x := x) h).1, (key_bad (x := x) h).2.1, (key_bad (x := x) h).2.2]
    clear hn hl ha hs ht
    by_cases h2 : u < 0
    · have d1 : decide (u < 0) = true := by simpa using h2
      clear h
      go_enter Tryd.func8, Tryd.ntmps8
      go_wp2
      go_ret2
      exact HG.out
    · have d1 : decide (u < 0) = false := by simpa using h2
      have d2 : decide (65535 < u) = true := by simp; omega
      clear h h2
      go_enter Tryd.func8, Tryd.ntmps8
      go_wp2
      go_ret2
      exact HG.out
  · obtain ⟨k, rfl⟩ := Int.eq_ofNat_of_zero_le (show 0 ≤ u from by omega)
    have hk : k ≤ 65535 := by omega
    rw [(key_good (x := x) hk).1, (key_good (x := x) hk).2.1, (key_good (x := x) hk).2.2]
    exact ref_key_yes hn hk hl ha hs ht

end Go.Proofs.YtdjmehinifnbhaaDoor
