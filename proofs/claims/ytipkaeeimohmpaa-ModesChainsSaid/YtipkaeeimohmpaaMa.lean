/-
  What is proved here: the statements' own check 'awake' (of the sixth layer) returns true in whatever world, and turns nothing that was there.
-/
import Derived.Test.YtipkaeeimohmpaaMf
namespace Go.Proofs.Ytipkaeeimohmpaa
open Go.RowKit
set_option linter.unusedVariables false

theorem SeesP.on {w w' : World} {A : Option Addr} {cs : List Value} (h : SeesP w (· < w.heap.size) A cs) (hb : Below w.heap.size w w') : SeesP w' (· < w'.heap.size) A cs :=
  (h.keep fun q hq => hb.cell hq).imp fun q hq => Nat.lt_of_lt_of_le hq hb.size
theorem SeesP.low {w : World} {B : Nat} {A : Option Addr} {cs : List Value} (h : SeesP w (fun b => B ≤ b ∧ b < w.heap.size) A cs) : SeesP w (· < w.heap.size) A cs := h.imp fun q hq => hq.2
/-- a call that hands back n bytes and no error -/
def GivesA (w : World) (n : Nat) (bs : List UInt8) (e : Ending) (w' : World) : Prop := ∃ A c, e = .returned (.tuple #[.slice A n c, .int .i64 0]) ∧ n ≤ c ∧ SeesP w' (· < w'.heap.size) A (Us bs) ∧ Below w.heap.size w w'
theorem GivesY.a {w w' : World} {bs : List UInt8} {e : Ending} {n : Nat} (hn : bs.length = n) (h : GivesY w bs 0 e w') : GivesA w n bs e w' := by
  subst hn
  obtain ⟨A, c, he, h1, _, h2, h3⟩ := h
  exact ⟨A, c, he, h1, h2.low, h3⟩
theorem seal_n {key iv p : List UInt8} {A1 A2 A3 : Option Addr} {n c1 c2 c3 : Nat} {w : World} (hk : key.length = 16) (hiv : iv.length = 16) (hp : p.length = n) (h16 : n % 16 = 0) (m3 : n ≤ 140737488351300) (hc3 : n ≤ c3)
    (h1 : SeesP w (· < w.heap.size) A1 (Us key)) (h2 : SeesP w (· < w.heap.size) A2 (Us iv)) (h3 : SeesP w (· < w.heap.size) A3 (Us p)) :
    Calls Try.prog 15 #[.slice A1 16 c1, .slice A2 16 c2, .slice A3 n c3] w (GivesA w n (sealB key iv p)) := by
  subst hp
  have h := modes_seal key iv p A1 A2 A3 c1 c2 c3 w (by omega) (by omega) m3 hc3 h1 h2 h3
  have e0 : vE key.length iv.length p.length = 0 := by simp [vE, hk, hiv, h16]
  rw [e0, hk, hiv] at h
  exact h.mono fun e w' hg => hg.a (open_seal_all hk hiv h16).2
theorem open_n {key iv p : List UInt8} {A1 A2 A3 : Option Addr} {n c1 c2 c3 : Nat} {w : World} (hk : key.length = 16) (hiv : iv.length = 16) (hp : p.length = n) (h16 : n % 16 = 0) (m3 : n ≤ 140737488351300) (hc3 : n ≤ c3)
    (h1 : SeesP w (· < w.heap.size) A1 (Us key)) (h2 : SeesP w (· < w.heap.size) A2 (Us iv)) (h3 : SeesP w (· < w.heap.size) A3 (Us p)) :
    Calls Try.prog 17 #[.slice A1 16 c1, .slice A2 16 c2, .slice A3 n c3] w (GivesA w n (openB key iv p)) := by
  subst hp
  have h := modes_open key iv p A1 A2 A3 c1 c2 c3 w (by omega) (by omega) m3 hc3 h1 h2 h3
  have e0 : vE key.length iv.length p.length = 0 := by simp [vE, hk, hiv, h16]
  rw [e0, hk, hiv] at h
  exact h.mono fun e w' hg => hg.a (seal_open_all hk hiv h16).2
theorem pad_n {l p : List UInt8} {A : Option Addr} {n k c : Nat} {w : World} (hn : l.length = n) (hp : padM l = p) (hk : p.length = k) (hl : n ≤ 140737488351300) (hs : SeesP w (· < w.heap.size) A (Us l)) :
    Calls Try.prog 14 #[.slice A n c] w fun e w' => ∃ g, e = .returned (.slice (some ⟨g, 0, none⟩) k k) ∧ w.heap.size ≤ g ∧ RowB w' g p ∧ Below w.heap.size w w' := by
  subst hn hp hk
  exact modes_pad l A c w hl hs
theorem unpad_n {l r : List UInt8} {A : Option Addr} {n k c : Nat} {w : World} (hn : l.length = n) (hr : unpB l = r) (he : unpE l = 0) (hk : r.length = k) (hl : n ≤ 140737488351300) (hs : SeesP w (· < w.heap.size) A (Us l)) :
    Calls Try.prog 9 #[.slice A n c] w fun e w' => ∃ A2 c2, e = .returned (.tuple #[.slice A2 k c2, .int .i64 0]) ∧ SeesP w' (· < w'.heap.size) A2 (Us r) ∧ Below w.heap.size w w' := by
  subst hn hr hk
  have h := modes_unpad l A c w hl hs
  rw [he] at h
  exact h.mono fun e w' ⟨A2, c2, h1, h2, h3⟩ => ⟨A2, c2, h1, SeesP.iff_sees.2 h2, h3⟩
def zeroM : List UInt8 := List.replicate 16 0
theorem make_m (w : World) : (Instr.makeSlice 22 (.int .i64 16) (.int .i64 16)).run Try.prog w = .ok (.slice (some ⟨w.heap.size, 0, none⟩) 16 16) (w.alloc (.cells (Us zeroM).toArray 5)) := by kernel_rfl
theorem RowB.lowS {w : World} {g : Nat} {l : List UInt8} (h : RowB w g l) : SeesP w (· < w.heap.size) (some ⟨g, 0, none⟩) (Us l) := h.sees _ h.lt

theorem n1 : ([7] : List UInt8).length = 1 := rfl
theorem n1l : 1 ≤ 140737488351300 := by decide
theorem n16m : 16 % 16 = 0 := rfl
theorem n16l : 16 ≤ 140737488351300 := by decide
theorem n16b : 16 ≤ 16 := by decide
set_option maxRecDepth 40000 in
set_option maxHeartbeats 1000000 in
theorem awake6 (w : World) : Calls Try.prog 12 #[] w fun e w' => e = .returned (.bool true) ∧ Below w.heap.size w w' := by
  obtain ⟨zx, hzx⟩ : ∃ x, x = zeroM := ⟨_, rfl⟩
  obtain ⟨px, hpx⟩ : ∃ x, x = padM [7] := ⟨_, rfl⟩
  have HZL := Lib.hid (show zx.length = 16 by rw [hzx]; rfl)
  have HPL := Lib.hid (show px.length = 16 by rw [hpx]; rfl)
  have HP := Lib.hid (show padM [7] = px from hpx.symm)
  have HU := Lib.hid (show unpB px = [7] ∧ unpE px = 0 from by rw [hpx]; exact unp_pad [7])
  have HSL := Lib.hid (show (sealB zx zx px).length = 16 from by rw [(open_seal_all HZL.out HZL.out (by rw [HPL.out])).2, HPL.out])
  have HO := Lib.hid (show openB zx zx (sealB zx zx px) = px from (open_seal_all HZL.out HZL.out (by rw [HPL.out])).1)
  have hm : ∀ w, (Instr.makeSlice 22 (.int .i64 16) (.int .i64 16)).run Try.prog w = .ok (.slice (some ⟨w.heap.size, 0, none⟩) 16 16) (w.alloc (.cells (Us zx).toArray 5)) := fun w => by rw [hzx]; exact make_m w
  clear hzx hpx
  have HW2 := Lib.hid (show Below w.heap.size w ((w.alloc (.cells (Us zx).toArray 5)).alloc (.cells #[.int .u8 7] 5)) ∧ RowB ((w.alloc (.cells (Us zx).toArray 5)).alloc (.cells #[.int .u8 7] 5)) w.heap.size zx ∧
      SeesP ((w.alloc (.cells (Us zx).toArray 5)).alloc (.cells #[.int .u8 7] 5)) (· < ((w.alloc (.cells (Us zx).toArray 5)).alloc (.cells #[.int .u8 7] 5)).heap.size) (some ⟨w.heap.size + 1, 0, none⟩) (Us [7]) from by
    have h1 : RowB (w.alloc (.cells (Us zx).toArray 5)) w.heap.size zx := RowB.new rfl
    have h2 : RowB ((w.alloc (.cells (Us zx).toArray 5)).alloc (.cells #[.int .u8 7] 5)) (w.alloc (.cells (Us zx).toArray 5)).heap.size [7] := RowB.new rfl
    rw [World.size_alloc] at h2
    exact ⟨((Below.refl _ _).alloc (Nat.le_refl _) _).alloc (by simp) _, h1.on ((Below.refl _ _).alloc (Nat.le_refl _) _), h2.lowS⟩)
  go_enter Try.func12, Try.ntmps12
  go_wp2_with (first
    | (go_at_call 14; ((with_reducible refine (pad_n (l := [7]) (p := px) n1 HP.out HPL.out n1l HW2.out.2.2).mono ?_); rintro e w3 ⟨g3, rfl, hg3, hr3, hb3⟩); have H3 := Lib.hid (show Below w.heap.size w w3 ∧ SeesP w3 (· < w3.heap.size) (some ⟨w.heap.size, 0, none⟩) (Us zx) ∧ SeesP w3 (· < w3.heap.size) (some ⟨g3, 0, none⟩) (Us px) from ⟨below_on HW2.out.1 hb3, HW2.out.2.1.lowS.on hb3, hr3.lowS⟩); clear hg3 hr3 hb3)
    | (go_at_call 15; ((with_reducible refine (seal_n HZL.out HZL.out HPL.out n16m n16l n16b H3.out.2.1 H3.out.2.1 H3.out.2.2).mono ?_); rintro e w4 ⟨A4, c4, rfl, hc4, hs4, hb4⟩); have H4 := Lib.hid (show Below w.heap.size w w4 ∧ SeesP w4 (· < w4.heap.size) (some ⟨w.heap.size, 0, none⟩) (Us zx) ∧ SeesP w4 (· < w4.heap.size) A4 (Us (sealB zx zx px)) ∧ 16 ≤ c4 from ⟨below_on H3.out.1 hb4, H3.out.2.1.on hb4, hs4, hc4⟩); clear hc4 hs4 hb4)
    | (go_at_call 17; ((with_reducible refine (open_n HZL.out HZL.out HSL.out n16m n16l H4.out.2.2.2 H4.out.2.1 H4.out.2.1 H4.out.2.2.1).mono ?_); rintro e w5 ⟨A5, c5, rfl, hc5, hs5, hb5⟩); rw [HO.out] at hs5; have H5 := Lib.hid (show Below w.heap.size w w5 ∧ SeesP w5 (· < w5.heap.size) A5 (Us px) from ⟨below_on H4.out.1 hb5, hs5⟩); clear hc5 hs5 hb5)
    | (go_at_call 9; ((with_reducible refine (unpad_n (r := [7]) HPL.out HU.out.1 HU.out.2 n1 n16l H5.out.2).mono ?_); rintro e w6 ⟨A6, c6, rfl, hs6, hb6⟩); obtain ⟨b6, o6, rfl, hlt6, hc6⟩ := seen_addr hs6 (by decide); have y6 : w6.cell? ⟨b6, o6 + 0, none⟩ = some (.int .u8 7) := hc6 0 (by decide); rw [Nat.add_zero] at y6; have H6 := Lib.hid (show Below w.heap.size w w6 from below_on H5.out.1 hb6); clear hs6 hb6 hlt6 hc6))
  go_ret
  exact ⟨rfl, H6.out⟩

end Go.Proofs.Ytipkaeeimohmpaa
