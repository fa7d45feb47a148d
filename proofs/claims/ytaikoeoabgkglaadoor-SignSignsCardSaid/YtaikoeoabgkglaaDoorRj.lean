/-
  What is proved here: what the reference's Four and Join answer, for bytes that lie in memory.
-/
import Derived.Test.YtaikoeoabgkglaaDoorRows
import Derived.Test.YtaikoeoabgkglaaDoorMn
import Derived.Test.YtaikoeoabgkglaaDoorSlit
namespace Go.Proofs.YtaikoeoabgkglaaDoor
open Go.RowKit
set_option linter.unusedVariables false

theorem four_eq (n : Nat) : four n = [UInt8.ofNat (n / 16777216), UInt8.ofNat (n / 65536), UInt8.ofNat (n / 256), UInt8.ofNat n] := by
  simp [four, octL, octAt, List.range_succ]
theorem four_us (n : Nat) : Us (four n) = [.int .u8 ((n : Int) / 16777216 % 256), .int .u8 ((n : Int) / 65536 % 256), .int .u8 ((n : Int) / 256 % 256), .int .u8 ((n : Int) % 256)] := by
  rw [four_eq]
  simp [Us, U]
theorem sees_row {wr : World} {t : TypeId} {fr : Nat × Nat} {cs : List Value} {l : List UInt8} (h : Us l = cs) : SeesP (wr.alloc (.cells cs.toArray t fr)) (· < (wr.alloc (.cells cs.toArray t fr)).heap.size) (some ⟨wr.heap.size, 0, none⟩) (Us l) := by
  subst h
  exact sees_lit wr l t fr
theorem ref_four {n : Nat} {w : World} (hn : n ≤ 4294967296) : Calls Tryd.prog 28 #[.int .i64 (n : Int)] w (MkN w 4 (four n)) := by
  have H := Lib.hid hn
  go_enter Tryd.func28, Tryd.ntmps28
  go_wp2
  go_ret
  exact ⟨_, 4, rfl, Nat.le_refl _, (fun e => by cases e), sees_row (four_us n), below_al _ _⟩
theorem ref_join {x y : List UInt8} {A B : Option Addr} {a b ca cb : Nat} {w : World} (hx : x.length = a) (hy : y.length = b) (hn1 : A = none → ca = 0) (hn2 : B = none → cb = 0) (hl : a + b ≤ 140737488351500) (h1 : SeesP w (· < w.heap.size) A (Us x)) (h2 : SeesP w (· < w.heap.size) B (Us y)) :
    Calls Tryd.prog 27 #[.slice A a ca, .slice B b cb] w (MkN w (a + b) (x ++ y)) := by
  obtain ⟨i0, hi, hz0, hz1, hz2⟩ := info_parts info_u8
  have H := Lib.hid (show _ ∧ _ ∧ _ ∧ _ ∧ _ ∧ _ from ⟨hx, hy, hn1, hn2, h1, h2⟩)
  clear hx hy hn1 hn2 h1 h2
  go_enter Tryd.func27, Tryd.ntmps27
  go_wp2_with (first
    | (at_builtin; refine app_bytes rfl (.const (.slice none 0 0)) (.tmp 5) 22 rfl w.heap.size 5 i0 (.int .u8 0) Tryd.underlying22 hi hz0 hz1 hz2 rfl (.slice none 0 0) 0 [] rfl (World.ownsRow_nil _ _ _ _) A ca x _ (by rw [H.out.1]; rfl) H.out.2.2.1 H.out.2.2.2.2.1 (by unfold maxLen; rw [H.out.1]; omega) (by rw [H.out.1]; omega) (Nat.le_refl _) ?_; rw [H.out.1, Nat.zero_add, List.nil_append]; intro v1 w1 ho hg; obtain ⟨B1, c1, rfl⟩ := own_len ho; have H1 := Lib.hid (show _ ∧ Below w.heap.size w w1 from ⟨ho, (Below.refl _ w).grown hg (Nat.le_refl _) (by simp [Value.ownBlock])⟩); clear ho hg)
    | (at_builtin; refine app_bytes rfl (.tmp 6) (.tmp 7) 22 rfl w.heap.size 5 i0 (.int .u8 0) Tryd.underlying22 hi hz0 hz1 hz2 rfl (.slice B1 a c1) a _ rfl H1.out.1 B cb y _ (by rw [H.out.2.1]; rfl) H.out.2.2.2.1 (H.out.2.2.2.2.2.ony H1.out.2) (by unfold maxLen; rw [H.out.2.1]; omega) (by rw [H.out.2.1]; omega) H1.out.2.size ?_; rw [H.out.2.1]; intro v2 w2 ho hg; obtain ⟨B2, c2, rfl⟩ := own_len ho; have H2 := Lib.hid (show _ ∧ Below w.heap.size w w2 from ⟨ho, below_own H1.out.2 H1.out.1 hg⟩); clear ho hg))
  go_ret
  exact mkN_of (by rw [List.length_append, H.out.1, H.out.2.1]) (mk_own (by rw [Us_append]; exact H2.out.1) H2.out.2 (by rw [List.length_append, H.out.1, H.out.2.1]))

end Go.Proofs.YtaikoeoabgkglaaDoor
