/-
  What is proved here: what the reference's Same returns for equal objects that lie in memory; and what the program's Canonical returns.
-/
import Derived.Test.YtipmmclahngabaaRows
import Derived.Test.YtipmmclahngabaaKit
import Derived.Test.YtipmmclahngabaaChk
import Derived.Test.YtipmmclahngabaaStr
import Derived.BigQuiet
namespace Go.Proofs.Ytipmmclahngabaa
open Go.RowKit
set_option linter.unusedVariables false

/-- the conversion of bytes to a string, in a world that was drawn from -/
theorem conv_drew {w : World} {p : Nat → Prop} {A : Option Addr} {x : List UInt8} (h : SeesP w p A (Us x)) (c : Nat) (q : Nat) : (convert 27 9 (.slice A x.length c)).run Try.prog (w.drewN q) = .ok (.string (S x)) (w.drewN q) := by
  rcases h with h | ⟨b, off, e, hp, hc⟩
  · exact run_conv (w.drewN q) 0 A x (.inl h) x.length c rfl
  · exact run_conv (w.drewN q) (b + 1) A x (.inr ⟨b, off, e, by omega, hc⟩) x.length c rfl

set_option maxHeartbeats 2000000 in
theorem same_yes (n : Nat) (hn : n ≤ 1125899906842624) : ∀ (f : F) (A1 A2 : Option Addr) (c1 c2 : Nat) (w : World) (p1 p2 : Nat → Prop), f.size < n → f.ok → SeesF w p1 A1 f → SeesF w p2 A2 f →
    Calls Try.prog 21 #[.slice A1 f.len c1, .slice A2 f.len c2] w fun e w' => e = .returned (.bool true) ∧ ∃ q, w' = w.drewN q := by
  induction n with
  | zero => intro f A1 A2 c1 c2 w p1 p2 h; omega
  | succ n ih =>
    intro f A1 A2 c1 c2 w p1 p2 hsz hok hs1 hs2
    obtain ⟨cs1, s1, k1⟩ := hs1
    obtain ⟨cs2, s2, k2⟩ := hs2
    have hlen := f.len_le_size
    have IH := Lib.hid (ih (by omega))
    have H0 := Lib.hid (show f.ok ∧ HoldsP w p1 f cs1 ∧ HoldsP w p2 f cs2 from ⟨hok, k1, k2⟩)
    have HS := Lib.hid (show SeesP w p1 A1 cs1 ∧ SeesP w p2 A2 cs2 from ⟨s1, s2⟩)
    have hne : ((f.len : Int) != (f.len : Int)) = false := by simp
    clear hok k1 k2 s1 s2 ih
    go_enter Try.func21, Try.ntmps21
    go_wp2_with fail
    go_loopw [5] (fun i wr => ∃ (j d : Nat) (g : F), j + g.len = f.len ∧ i = .int .i64 j ∧ wr = w.drewN d ∧ Hid (g.ok ∧ g.size ≤ f.size ∧ HoldsP w p1 g (cs1.drop (3 * j)) ∧ HoldsP w p2 g (cs2.drop (3 * j)))) (fun i _ => f.len - (intOf i).toNat)
    case atStart => exact ⟨0, 0, f, by omega, rfl, rfl, Lib.hid ⟨H0.out.1, Nat.le_refl _, H0.out.2.1, H0.out.2.2⟩⟩
    case round =>
      clear H0
      obtain ⟨j, d, g, hj, rfl, hw, HG⟩ := hrel
      have HW := Lib.hid hw
      cases g with
      | nil =>
        have hj2 : j = f.len := hj
        clear hj HG hw
        go_wp2_with fail
        go_ret
        exact ⟨rfl, d, HW.out⟩
      | cons t v kk r =>
        have hj1 : j + r.len + 1 = f.len := hj
        have hgs : kk.size + r.size + 1 ≤ f.size := HG.out.2.1
        obtain ⟨b1, o1, Av1, cv1, Ak1, ck1, rfl, hp1, x0, x1, x2, sv1, sk1, r1, _⟩ := node_at HS.out.1 HG.out.2.2.1
        obtain ⟨b2, o2, Av2, cv2, Ak2, ck2, rfl, hp2, y0, y1, y2, sv2, sk2, r2, _⟩ := node_at HS.out.2 HG.out.2.2.2
        have HR := Lib.hid (show r.ok ∧ HoldsP w p1 r (cs1.drop (3 * (j + 1))) ∧ HoldsP w p2 r (cs2.drop (3 * (j + 1))) from ⟨HG.out.1.2.2.2, r1, r2⟩)
        have HSv := Lib.hid (show SeesP w p1 Av1 (Us v) ∧ SeesP w p2 Av2 (Us v) from ⟨sv1, sv2⟩)
        have HI := Lib.hid (fun q => IH.out kk Ak1 Ak2 ck1 ck2 (w.drewN q) p1 p2 (by omega) HG.out.1.2.2.1 (sk1.keep fun _ _ => rfl) (sk2.keep fun _ _ => rfl))
        have hlt : j < f.len := by omega
        have q0 : wr.cell? ⟨b1, o1 + j * 3, none⟩ = some (.int .i64 t) := by rw [hw]; exact x0
        have q1 : wr.cell? ⟨b1, o1 + j * 3 + 1, none⟩ = some (.slice Av1 v.length cv1) := by rw [hw]; exact x1
        have q2 : wr.cell? ⟨b1, o1 + j * 3 + 2, none⟩ = some (.slice Ak1 kk.len ck1) := by rw [hw]; exact x2
        have z0 : wr.cell? ⟨b2, o2 + j * 3, none⟩ = some (.int .i64 t) := by rw [hw]; exact y0
        have z1 : wr.cell? ⟨b2, o2 + j * 3 + 1, none⟩ = some (.slice Av2 v.length cv2) := by rw [hw]; exact y1
        have z2 : wr.cell? ⟨b2, o2 + j * 3 + 2, none⟩ = some (.slice Ak2 kk.len ck2) := by rw [hw]; exact y2
        obtain ⟨sx, hsx⟩ : ∃ sx, sx = S v := ⟨_, rfl⟩
        have v1 : ∀ q, (convert 27 9 (.slice Av1 v.length cv1)).run Try.prog (wr.drewN q) = .ok (.string sx) (wr.drewN q) := fun q => by rw [hw, hsx, World.drewN_drewN]; exact conv_drew HSv.out.1 cv1 _
        have v2 : ∀ q, (convert 27 9 (.slice Av2 v.length cv2)).run Try.prog (wr.drewN q) = .ok (.string sx) (wr.drewN q) := fun q => by rw [hw, hsx, World.drewN_drewN]; exact conv_drew HSv.out.2 cv2 _
        have HC := Lib.hid (show ∀ q, Calls Try.prog 21 #[.slice Ak1 kk.len ck1, .slice Ak2 kk.len ck2] (wr.drewN q) fun e w' => e = .returned (.bool true) ∧ ∃ q2, w' = (wr.drewN q).drewN q2 from fun q => by rw [hw, World.drewN_drewN]; exact HI.out _)
        have e1 : (t != t) = false := by simp
        have e2 : (sx.toList != sx.toList) = false := by simp
        clear hj HG x0 x1 x2 y0 y1 y2 sv1 sv2 sk1 sk2 r1 r2 hw hsx HI
        go_wp2_with fail
        go_quiet ((go_at_call 21; exact Calls.quiet_of (HC.out _)))
        go_wp2_with fail
        go_roundw
        case rel => exact ⟨j + 1, d + nq, r, by omega, by go_num, by rw [HW.out, World.drewN_drewN], Lib.hid ⟨HR.out.1, by omega, HR.out.2.1, HR.out.2.2⟩⟩
        case measure => simp [intOf]; omega

end Go.Proofs.Ytipmmclahngabaa
