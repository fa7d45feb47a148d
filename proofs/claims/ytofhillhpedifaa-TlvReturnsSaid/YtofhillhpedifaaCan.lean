/-
  What is proved here: the program's Canonical, where the bytes can be read.
-/
import Derived.Test.YtofhillhpedifaaEnc
import Derived.Test.YtofhillhpedifaaPrs
namespace Go.Proofs.Ytofhillhpedifaa
open Go.RowKit
set_option linter.unusedVariables false

theorem tlv_canon (f : F) (l : List UInt8) (A : Option Addr) (cap n : Nat) (w : World) (hp : parse false l = .ok (f, n)) (hsz : f.size < 1125899906842624) (hok : f.ok) (hl : l.length ≤ 140737488351232) (hcap : l.length ≤ cap) (hs : SeesP w (· < w.heap.size) A (Us l)) :
    Calls Try.prog 26 #[.slice A l.length cap] w (GivesN w (encB f) (encE f)) := by
  have hP := tlv_parse false l A cap w hl hcap hs
  rw [hp] at hP
  have HP := Lib.hid hP
  have HX := Lib.hid (show f.size < 1125899906842624 ∧ f.ok from ⟨hsz, hok⟩)
  clear hP hp hsz hok hs
  go_enter Try.func26, Try.ntmps26
  go_wp2_with fail
  refine HP.out.mono ?_
  rintro e w1 ⟨hb1, A1, c1, rfl, hs1⟩
  have HE := Lib.hid (tlv_encode_n f A1 c1 w1 HX.out.1 HX.out.2 (hs1.imp fun b hb => hb.2))
  have HB := Lib.hid hb1
  clear HP hb1 hs1
  go_wp2_with fail
  refine HE.out.mono ?_
  rintro e w2 ⟨A2, c2, rfl, s2, hb2, hc2⟩
  have HF := Lib.hid (show GivesN w (encB f) (encE f) (.returned (.tuple #[.slice A2 (encB f).length c2, .int .i64 (encE f)])) w2 from ⟨A2, c2, rfl, s2.imp fun b hb => ⟨Nat.le_trans HB.out.size hb.1, hb.2⟩, below_on HB.out hb2, hc2⟩)
  clear s2 hb2 hc2 HE HB
  go_wp2_with fail
  go_ret2
  exact HF.out

end Go.Proofs.Ytofhillhpedifaa
