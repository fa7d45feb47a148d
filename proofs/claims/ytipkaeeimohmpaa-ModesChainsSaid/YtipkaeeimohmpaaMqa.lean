/-
  What is proved here: what Seal and Open of the program answer, in the words that the statements' walks use; the statements' own sixteen.
-/
import Derived.Test.YtipkaeeimohmpaaMl
import Derived.Test.YtipkaeeimohmpaaMf
namespace Go.Proofs.Ytipkaeeimohmpaa
open Go.RowKit
set_option linter.unusedVariables false

set_option maxHeartbeats 400000 in
theorem law_sixteen6 (x : List UInt8) (A : Option Addr) (c : Nat) (w : World) (hl : x.length ≤ 140737488351232) (hn : A = none → c = 0) (hs : Sees w w.heap.size A (Us x)) :
    Calls Try.prog 19 #[.slice A x.length c] w (Mk16 w (sxL x)) := by
  obtain ⟨i0, hi, hz0, hz1, hz2⟩ := info_parts info_u8p
  have HS := Lib.hid (show (A = none → c = 0) ∧ SeesP w (· < w.heap.size) A (Us x) from ⟨hn, SeesP.iff_sees.2 hs⟩)
  clear hn hs
  go_enter Try.func19, Try.ntmps19
  go_wp2_with (first
    | (at_builtin; refine app_bytes rfl (.const (.slice none 0 0)) (.tmp 4) 22 rfl w.heap.size 5 i0 (.int .u8 0) Try.underlying22 hi hz0 hz1 hz2 rfl (.slice none 0 0) 0 [] rfl (World.ownsRow_nil _ _ _ _) A c x _ rfl HS.out.1 HS.out.2 (by unfold maxLen; omega) (by omega) (Nat.le_refl _) ?_; intro v1 w1 ho1 hg1; rw [Nat.zero_add, List.nil_append] at ho1; have H1 := Lib.hid (And.intro ho1 ((Below.refl w.heap.size w).grown hg1 (Nat.le_refl _) (fun k e => by cases e))); clear ho1 hg1)
    | (at_builtin; refine wpList_append_zeros rfl (.tmp 5) (.const (.int .i64 16)) 22 3 rfl w.heap.size 5 i0 .i64 .i64 Try.underlying22 Try.underlying3 hi hz0 hz1 hz2 v1 x.length _ rfl H1.out.1 16 rfl (by decide) (by unfold maxLen; omega) (by omega) H1.out.2.size ?_; intro v2 w2 ho2 hg2; have H2 := Lib.hid (show w2.ownsRow w.heap.size 5 1 v2 (x.length + 16) (Us (x ++ List.replicate 16 0)) ∧ Below w.heap.size w w2 from ⟨by rw [Us_append, Us_zeros]; exact ho2, below_own H1.out.2 H1.out.1 hg2⟩); clear ho2 hg2; obtain ⟨A2, c2, rfl⟩ := own_form H2.out.1; have hc := own_cap H2.out.1; have hc1 : (16 : Int) ≤ (c2 : Int) := (by omega); have hc2 : 16 ≤ c2 := (by omega)))
  go_ret
  exact sx_own H2.out.1 H2.out.2

theorem Gives.s {w w' : World} {bs : List UInt8} {er : Int} {e : Ending} {n : Nat} (hn : bs.length = n) (h : Gives w bs er e w') : GivesS w n bs er e w' := by
  subst hn
  obtain ⟨A, c, he, h1, h2⟩ := h
  exact ⟨A, c, he, SeesP.iff_sees.2 h1, h2⟩
theorem GivesY.s {w w' : World} {bs : List UInt8} {er : Int} {e : Ending} {n : Nat} (hn : bs.length = n) (h : GivesY w bs er e w') : GivesS w n bs er e w' := by
  subst hn
  obtain ⟨A, c, he, _, _, h1, h2⟩ := h
  exact ⟨A, c, he, h1.low, h2⟩
section
variable {key iv p S : List UInt8} {E : Int} {A1 A2 A3 : Option Addr} {n1 n2 n3 c1 c2 c3 k : Nat} {w : World}
theorem seal_pg (e1 : key.length = n1) (e2 : iv.length = n2) (e3 : p.length = n3) (eE : vE n1 n2 n3 = E) (eS : sealB key iv p = S) (eK : S.length = k) (m1 : n1 ≤ 140737488351300) (m2 : n2 ≤ 140737488351300) (m3 : n3 ≤ 140737488351300) (hc3 : n3 ≤ c3)
    (h1 : SeesP w (· < w.heap.size) A1 (Us key)) (h2 : SeesP w (· < w.heap.size) A2 (Us iv)) (h3 : SeesP w (· < w.heap.size) A3 (Us p)) :
    Calls Try.prog 15 #[.slice A1 n1 c1, .slice A2 n2 c2, .slice A3 n3 c3] w (GivesS w k S E) := by
  subst e1 e2 e3 eE eS eK
  exact (modes_seal key iv p A1 A2 A3 c1 c2 c3 w m1 m2 m3 hc3 h1 h2 h3).mono fun e w' h => h.s rfl
theorem open_pg (e1 : key.length = n1) (e2 : iv.length = n2) (e3 : p.length = n3) (eE : vE n1 n2 n3 = E) (eS : openB key iv p = S) (eK : S.length = k) (m1 : n1 ≤ 140737488351300) (m2 : n2 ≤ 140737488351300) (m3 : n3 ≤ 140737488351300) (hc3 : n3 ≤ c3)
    (h1 : SeesP w (· < w.heap.size) A1 (Us key)) (h2 : SeesP w (· < w.heap.size) A2 (Us iv)) (h3 : SeesP w (· < w.heap.size) A3 (Us p)) :
    Calls Try.prog 17 #[.slice A1 n1 c1, .slice A2 n2 c2, .slice A3 n3 c3] w (GivesS w k S E) := by
  subst e1 e2 e3 eE eS eK
  exact (modes_open key iv p A1 A2 A3 c1 c2 c3 w m1 m2 m3 hc3 h1 h2 h3).mono fun e w' h => h.s rfl
end
theorem sealB_le (key iv p : List UInt8) : (sealB key iv p).length ≤ p.length := by
  unfold sealB
  split
  · rename_i h
    obtain ⟨_, h2, h3⟩ := vE_zero h
    rw [sealN_length h2]
    omega
  · simp
theorem openB_le (key iv p : List UInt8) : (openB key iv p).length ≤ p.length := by
  unfold openB
  split
  · rename_i h
    rw [openN_length]
    omega
  · simp
theorem sixteen6 {x q : List UInt8} {A : Option Addr} {n c : Nat} {w : World} (hn : x.length = n) (hq : sxL x = q) (hl : n ≤ 140737488351232) (ha : A = none → c = 0) (hs : SeesP w (· < w.heap.size) A (Us x)) :
    Calls Try.prog 19 #[.slice A n c] w fun e w' => ∃ A2 c2, e = .returned (.slice A2 16 c2) ∧ SeesP w' (· < w'.heap.size) A2 (Us q) ∧ Below w.heap.size w w' := by
  subst hn hq
  exact (law_sixteen6 x A c w hl ha (SeesP.iff_sees.1 hs)).mono fun e w' ⟨A2, c2, h1, h2, h3⟩ => ⟨A2, c2, h1, SeesP.iff_sees.2 h2, h3⟩
theorem vE_16 {n : Nat} (h : n % 16 = 0) : vE 16 16 n = 0 := by simp [vE, h]

end Go.Proofs.Ytipkaeeimohmpaa
