/-
  What is proved here: what the program's firstWords answers for a block of 64 bytes.
-/
import Derived.Test.YtaikoeoabgkglaaDoorRow
import Derived.StillTailTactics
namespace Go.Proofs.YtaikoeoabgkglaaDoor
open Go.RowKit
set_option linter.unusedVariables false

/-- the words when i bytes have been read -/
def fwS (b : List UInt8) : Nat → List UInt32
  | 0 => List.replicate 64 0
  | i + 1 => (fwS b i).set (i / 4) ((fwS b i).getD (i / 4) 0 <<< 8 ||| (b.getD i 0).toUInt32)
theorem fwS_length (b : List UInt8) : ∀ i, (fwS b i).length = 64
  | 0 => by simp [fwS]
  | i + 1 => by simp [fwS, fwS_length b i]
theorem pack4 (a b c d : UInt8) : ((((0 : UInt32) <<< 8 ||| a.toUInt32) <<< 8 ||| b.toUInt32) <<< 8 ||| c.toUInt32) <<< 8 ||| d.toUInt32 = packW a b c d := by
  have ha := a.toNat_lt
  have hb := b.toNat_lt
  have hc := c.toNat_lt
  have hd := d.toNat_lt
  apply UInt32.toNat_inj.1
  have st : ∀ (x : UInt32) (u : UInt8), x.toNat < 16777216 → (x <<< 8 ||| u.toUInt32).toNat = 256 * x.toNat + u.toNat := by
    intro x u hx
    have hu := u.toNat_lt
    rw [UInt32.toNat_or, UInt32.toNat_shiftLeft, UInt8.toNat_toUInt32, show (8 : UInt32).toNat % 32 = 8 from rfl, Nat.shiftLeft_eq, Nat.mod_eq_of_lt (by omega)]
    rw [nat_join 8 (x.toNat * 2 ^ 8) u.toNat (by omega) (by omega)]
    omega
  have h1 := st 0 a (by decide)
  have h2 := st _ b (by rw [h1]; simp; omega)
  have h3 := st _ c (by rw [h2, h1]; simp; omega)
  have h4 := st _ d (by rw [h3, h2, h1]; simp; omega)
  rw [h4, h3, h2, h1]
  unfold packW
  rw [UInt32.toNat_ofNat', Nat.mod_eq_of_lt (by omega)]
  simp
  omega
theorem set_zero {α : Type} (l : List α) (z x : α) (m : Nat) : (l ++ List.replicate (m + 1) z).set l.length x = l ++ [x] ++ List.replicate m z := by
  rw [List.set_append_right _ _ (Nat.le_refl _)]
  simp [List.replicate_succ]
theorem getD_mid {α : Type} (l r : List α) (x z : α) (k : Nat) (h : k = l.length) : (l ++ [x] ++ r).getD k z = x := by
  subst h
  simp [List.getD]
theorem set_mid {α : Type} (l r : List α) (x y : α) (k : Nat) (h : k = l.length) : (l ++ [x] ++ r).set k y = l ++ [y] ++ r := by
  subst h
  rw [List.append_assoc, List.set_append_right _ _ (Nat.le_refl _)]
  simp
theorem fwS_word (b : List UInt8) : ∀ t, t ≤ 16 → fwS b (4 * t) = sch b t ++ List.replicate (64 - t) 0
  | 0, _ => by simp [fwS, sch]
  | t + 1, h => by
    have ih := fwS_word b t (by omega)
    have hl := sch_length b t
    have e0 : 64 - t = (63 - t) + 1 := by omega
    rw [e0] at ih
    have g0 : (fwS b (4 * t)).getD t 0 = 0 := by rw [ih]; simp [List.getD, hl]
    have s1 : fwS b (4 * t + 1) = sch b t ++ [(0 : UInt32) <<< 8 ||| (b.getD (4 * t) 0).toUInt32] ++ List.replicate (63 - t) 0 := by
      simp only [fwS, show 4 * t / 4 = t by omega, g0]
      rw [ih]
      have := set_zero (sch b t) (0 : UInt32) ((0 : UInt32) <<< 8 ||| (b.getD (4 * t) 0).toUInt32) (63 - t)
      rw [hl] at this
      exact this
    have s2 : fwS b (4 * t + 1 + 1) = sch b t ++ [((0 : UInt32) <<< 8 ||| (b.getD (4 * t) 0).toUInt32) <<< 8 ||| (b.getD (4 * t + 1) 0).toUInt32] ++ List.replicate (63 - t) 0 := by
      rw [fwS, show (4 * t + 1) / 4 = t by omega, s1, getD_mid _ _ _ _ _ hl.symm, set_mid _ _ _ _ _ hl.symm]
    have s3 : fwS b (4 * t + 1 + 1 + 1) = sch b t ++ [(((0 : UInt32) <<< 8 ||| (b.getD (4 * t) 0).toUInt32) <<< 8 ||| (b.getD (4 * t + 1) 0).toUInt32) <<< 8 ||| (b.getD (4 * t + 2) 0).toUInt32] ++ List.replicate (63 - t) 0 := by
      rw [fwS, show (4 * t + 1 + 1) / 4 = t by omega, s2, getD_mid _ _ _ _ _ hl.symm, set_mid _ _ _ _ _ hl.symm]
    have s4 : fwS b (4 * t + 1 + 1 + 1 + 1) = sch b t ++ [((((0 : UInt32) <<< 8 ||| (b.getD (4 * t) 0).toUInt32) <<< 8 ||| (b.getD (4 * t + 1) 0).toUInt32) <<< 8 ||| (b.getD (4 * t + 2) 0).toUInt32) <<< 8 ||| (b.getD (4 * t + 3) 0).toUInt32] ++ List.replicate (63 - t) 0 := by
      rw [fwS, show (4 * t + 1 + 1 + 1) / 4 = t by omega, s3, getD_mid _ _ _ _ _ hl.symm, set_mid _ _ _ _ _ hl.symm]
    rw [pack4] at s4
    rw [show 4 * (t + 1) = 4 * t + 1 + 1 + 1 + 1 by omega, s4, sch, if_pos (by omega), show 64 - (t + 1) = 63 - t by omega]
    rfl
def w16 (b : List UInt8) : List UInt32 := sch b 16 ++ List.replicate 48 0
theorem fwS_all (b : List UInt8) : fwS b 64 = w16 b := fwS_word b 16 (Nat.le_refl _)
theorem w16_length (b : List UInt8) : (w16 b).length = 64 := by simp [w16, sch_length]
theorem info_64 : (Tryd.prog.info? 70).map (·.size) = some 64 := by kernel_rfl
theorem step_val (x : UInt32) (c : UInt8) : bits .or .u32 ((x.toNat : Int) * 256 % 4294967296) ((c.toNat : Int) % 4294967296) = ((x <<< 8 ||| c.toUInt32).toNat : Int) := by
  have hc : (c.toNat : Int) % 4294967296 = (c.toNat : Int) := by have := c.toNat_lt; omega
  rw [hc]
  have h := w_shl x 8 (by decide)
  rw [show ((2 : Int) ^ 8) = 256 from rfl] at h
  rw [h, ← UInt8.toNat_toUInt32, w_or]
  rfl

/-- what firstWords keeps -/
def FwR (w : World) (b : List UInt8) (i : Nat) (wr : World) : Prop := Below w.heap.size w wr ∧ RowW wr (w.heap.size + 1) (fwS b i) ∧ RowW wr w.heap.size (List.replicate 64 0)
theorem FwR.step {w wr : World} {b : List UInt8} {i : Nat} (h : FwR w b i wr) : FwR w b (i + 1) (wr.setCell ⟨w.heap.size + 1, i / 4, none⟩ (.int .u32 (bits .or .u32 ((((fwS b i).getD (i / 4) 0).toNat : Int) * 256 % 4294967296) (((b.getD i 0).toNat : Int) % 4294967296)))) := by
  rw [step_val]
  exact ⟨h.1.setCell (by simp) _, h.2.1.set _ _, h.2.2.far (by simp) _⟩

set_option maxRecDepth 40000 in
set_option maxHeartbeats 1000000 in
theorem first_words (b : List UInt8) (A : Option Addr) (c : Nat) (w : World) (hb : b.length = 64) (hs : SeesP w (· < w.heap.size) A (Us b)) :
    Calls Tryd.prog 60 #[.slice A 64 c] w fun e w' => e = .returned (.agg (Ws (w16 b)).toArray) ∧ Below w.heap.size w w' := by
  obtain ⟨b2, o2, rfl, hb2, hc2⟩ : ∃ b2 o2, A = some ⟨b2, o2, none⟩ ∧ b2 < w.heap.size ∧ ∀ j (h : j < 64), w.cell? ⟨b2, o2 + j, none⟩ = some (.int .u8 ((b.getD j 0).toNat : Int)) := by
    rcases hs with h | ⟨b2, o2, e, hp, hc⟩
    · have := congrArg List.length h; rw [Us_length] at this; have e0 : ([] : List Value).length = 0 := rfl; omega
    · exact ⟨b2, o2, e, hp, fun j hj => by rw [hc j (by rw [Us_length]; omega), Us_get (by omega), getD_at (by omega)]⟩
  have H := Lib.hid (And.intro hb hc2)
  clear hb hc2 hs
  go_enter Tryd.func60, Tryd.ntmps60
  go_wp2
  go_loopw [5] (fun i wr => ∃ t : Nat, t ≤ 64 ∧ i = .int .i64 (t : Int) ∧ Hid (FwR w b t wr)) (fun i _ => 64 - (intOf i).toNat)
  case atStart =>
    refine ⟨0, by decide, rfl, Lib.hid ⟨((Below.refl _ _).alloc (Nat.le_refl _) _).alloc (by simp) _, ?_, ?_⟩⟩
    · have h := fun o => RowW.new (w := w.alloc o) (c := Array.replicate 64 (.int .u32 0)) (t := 70) (l := fwS b 0) rfl
      simp only [World.size_alloc] at h
      exact h _
    · exact (RowW.new (l := List.replicate 64 0) rfl).alloc _
  case round =>
    obtain ⟨t, ht, rfl, HS⟩ := hrel
    by_cases h64 : t < 64
    · have y0 := (HS.out.1.cell (p := ⟨b2, o2 + t, none⟩) hb2).trans (H.out.2 t h64)
      have y1 := HS.out.2.1.cell (k := t / 4) (by rw [fwS_length]; omega)
      have yf := HS.out.2.1.free (t / 4)
      have q0 : ((t : Int) / 4).toNat = t / 4 := by omega
      have r0 : (0 : Int) ≤ (t : Int) / 4 ∧ (t : Int) / 4 < 64 := by omega
      have r1 : (t : Int) < 64 := by omega
      have r2 : (0 : Int) ≤ (t : Int) := by omega
      have n1 : IntKind.i64.wrap ((t : Int) / 4) = (t : Int) / 4 := by rw [IntKind.wrap_i64]; omega
      have n2 : ((b.getD t 0).toNat : Int) % 4294967296 = ((b.getD t 0).toNat : Int) := by have := (b.getD t 0).toNat_lt; omega
      go_wp2_with fail
      go_still_tail 14, (by kernel_rfl)
      change wpList _ _ _ _ _ wr.drew
      have y2 : wr.drew.cell? ⟨w.heap.size + 1, t / 4, none⟩ = some (.int .u32 (((fwS b t).getD (t / 4) 0).toNat : Int)) := y1
      have yf2 : wr.drew.frozen? ⟨w.heap.size + 1, t / 4, none⟩ = false := yf
      have HS2 : Hid (FwR w b t wr.drew) := Lib.hid ⟨HS.out.1.drew, HS.out.2.1, HS.out.2.2⟩
      clear y0 y1 yf HS q0 r0 r1 r2 n1 n2
      generalize wr.drew = w2 at *
      go_wp2_with fail
      go_roundw
      case rel => exact ⟨t + 1, by omega, by go_num, Lib.hid HS2.out.step⟩
      case measure => simp [intOf]; omega
    · obtain rfl : t = 64 := by omega
      have HR := Lib.hid (show RowW wr (w.heap.size + 1) (w16 b) ∧ RowW wr w.heap.size (List.replicate 64 0) ∧ Below w.heap.size w wr from ⟨by rw [← fwS_all]; exact HS.out.2.1, HS.out.2.2, HS.out.1⟩)
      clear HS h64 ht
      go_wp2_with (first | (refine wpList_load_words rfl 70 (.tmp 3) rfl (w.heap.size + 1) (w16 b) 64 59 rfl HR.out.1 Tryd.underlying70 (by rw [w16_length]; exact info_64) ?_) | (refine wpList_store_row rfl 70 (.tmp 2) (.tmp 23) rfl w.heap.size (List.replicate 64 0) (w16 b) rfl rfl HR.out.2.1 (by simp [w16_length]) (by rw [w16_length]; exact info_64) ?_))
      exact bodyPost_ret (results_words rfl _ _ w.heap.size (w16 b) 64 59 rfl (HR.out.2.1.row _) Tryd.underlying70 (by rw [w16_length]; exact info_64)) rfl ⟨rfl, below_setRow HR.out.2.2 (Nat.le_refl _) _⟩

end Go.Proofs.YtaikoeoabgkglaaDoor
