/-
  What is proved here: what the reference's add does to a block, and what its mix does.
-/
import Derived.Test.YtddobbigpoplpaaR1
import Derived.Test.YtddobbigpoplpaaP9
namespace Go.Proofs.Ytddobbigpoplpaa
open Go.RowKit
set_option linter.unusedVariables false

/-- a block g is turned in place -/
def Turn (w : World) (g : Nat) (l : List UInt8) (e : Ending) (w' : World) : Prop := e = .returned (.tuple #[]) ∧ Wr w w' g ∧ RowB w' g l
def ArR (w : World) (g : Nat) (l : List UInt8) (wr : World) : Prop := Wr w wr g ∧ RowB wr g l
theorem ArR.drew {w wr : World} {g : Nat} {l : List UInt8} (h : ArR w g l wr) : ArR w g l wr.drew := h
theorem ArR.set {w wr : World} {g : Nat} {l : List UInt8} (h : ArR w g l wr) (i : Nat) (x : UInt8) : ArR w g (l.set i x) (wr.setCell ⟨g, i, none⟩ (.int .u8 (x.toNat : Int))) := ⟨h.1.trans (Wr.cell wr ⟨g, i, none⟩ _), h.2.set i x⟩
set_option maxRecDepth 40000 in
set_option maxHeartbeats 1000000 in
theorem ref_add (b k : List UInt8) (g gk ok : Nat) (c : Nat) (w : World) (hb : b.length = 16) (hk : k.length = 16) (hr : RowB w g b) (hs : w.rangeAt gk ok (Us k)) (hne : gk ≠ g) :
    Calls Try.prog 70 #[.pointer (some ⟨g, 0, none⟩), .slice (some ⟨gk, ok, none⟩) 16 c] w (Turn w g (addL b k 16)) := by
  have HL := Lib.hid (show _ ∧ _ ∧ _ ∧ _ from ⟨hb, hk, hs, hne⟩)
  have HI := Lib.hid (show ArR w g (addL b k 0) w from ⟨Wr.refl w g, hr⟩)
  clear hb hk hr hs hne
  go_enter Try.func70, Try.ntmps70
  go_wp2_with fail
  go_loopw [4] (fun i wr => ∃ n : Nat, n ≤ 16 ∧ i = .int .i64 (n : Int) ∧ Hid (ArR w g (addL b k n) wr)) (fun i _ => 16 - (intOf i).toNat)
  case atStart => exact ⟨0, by decide, rfl, HI⟩
  case round =>
    clear HI
    obtain ⟨n, hn, rfl, HS⟩ := hrel
    by_cases h16 : n < 16
    · obtain ⟨x, hx⟩ : ∃ x, x = (addL b k n).getD n 0 := ⟨_, rfl⟩
      obtain ⟨y, hy⟩ : ∃ y, y = k.getD n 0 := ⟨_, rfl⟩
      have y1 : wr.cell? ⟨g, n, none⟩ = some (.int .u8 (x.toNat : Int)) := by rw [hx]; exact HS.out.2.cell (by rw [addL_length, HL.out.1]; exact h16)
      have y2 : wr.cell? ⟨gk, ok + n, none⟩ = some (.int .u8 (y.toNat : Int)) := by
        have h2 : w.cell? ⟨gk, ok + n, none⟩ = some (.int .u8 (y.toNat : Int)) := HL.out.2.2.1 n _ (by rw [hy, Us_get (by rw [HL.out.2.1]; exact h16), getD_b (by rw [HL.out.2.1]; exact h16)])
        rw [← h2]
        exact World.cell?_of_block (w := w) (HS.out.1.2.2.2.2 gk HL.out.2.2.2)
      have yf := HS.out.2.free n
      have r1 : (n : Int) < 16 := by omega
      have HX := Lib.hid (show x ^^^ y = (addL b k n).getD n 0 ^^^ k.getD n 0 by rw [hx, hy])
      clear hx hy
      go_wp2_with fail
      go_still_tail 12, (by kernel_rfl)
      change wpList _ _ _ _ _ wr.drew
      have y1' : wr.drew.cell? ⟨g, n, none⟩ = some (.int .u8 (x.toNat : Int)) := y1
      have yf' : wr.drew.frozen? ⟨g, n, none⟩ = false := yf
      have HS2 := Lib.hid HS.out.drew
      clear HS y1 y2 yf
      generalize wr.drew = w4 at *
      go_wp2_with fail
      go_roundw
      case rel => exact ⟨n + 1, by omega, by go_num, Lib.hid (by rw [b_xor, HX.out]; exact HS2.out.set n _)⟩
      case measure => simp [intOf]; omega
    · obtain rfl : n = 16 := by omega
      go_wp2_with fail
      go_end0
      exact ⟨rfl, HS.out.1, HS.out.2⟩

end Go.Proofs.Ytddobbigpoplpaa
