/-
  What is proved here: the statements' own check 'awake' (of the fifth layer) returns true in whatever world, and turns nothing that was there.
-/
import Derived.Test.YtddobbigpoplpaaP9
import Derived.Test.YtddobbigpoplpaaSx
import Derived.Test.YtddobbigpoplpaaRHx
namespace Go.Proofs.Ytddobbigpoplpaa
open Go.RowKit
set_option linter.unusedVariables false

/-- a call that hands back 16 bytes and a code -/
def G16 (w : World) (l : List UInt8) (e : Ending) (w' : World) : Prop := ∃ A c, e = .returned (.tuple #[.slice A 16 c, .int .i64 0]) ∧ Sees w' w'.heap.size A (Us l) ∧ Below w.heap.size w w'
theorem gives_16 {w : World} {l : List UInt8} {e : Ending} {w' : World} (hl : l.length = 16) (h : Gives w l 0 e w') : G16 w l e w' := by
  obtain ⟨A, c, he, hs, hb⟩ := h
  exact ⟨A, c, by rw [he, hl], hs, hb⟩
theorem enc_16 (k b : List UInt8) (A1 A2 : Option Addr) (c1 c2 : Nat) (w : World) (hk : k.length = 16) (hb : b.length = 16) (h1 : Sees w w.heap.size A1 (Us k)) (h2 : Sees w w.heap.size A2 (Us b)) :
    Calls Try.prog 22 #[.slice A1 16 c1, .slice A2 16 c2] w (G16 w (encL k b)) := (aes_enc k b A1 A2 c1 c2 w hk hb h1 h2).mono fun _ _ h => gives_16 (encL_length k b) h
theorem dec_16 (k b : List UInt8) (A1 A2 : Option Addr) (c1 c2 : Nat) (w : World) (hk : k.length = 16) (hb : b.length = 16) (h1 : Sees w w.heap.size A1 (Us k)) (h2 : Sees w w.heap.size A2 (Us b)) :
    Calls Try.prog 25 #[.slice A1 16 c1, .slice A2 16 c2] w (G16 w (decL k b)) := (aes_dec k b A1 A2 c1 c2 w hk hb h1 h2).mono fun _ _ h => gives_16 (decL_length k b) h
theorem same_16 (A1 A2 : Option Addr) (c1 c2 : Nat) (x : List UInt8) (w : World) (hx : x.length = 16) (h1 : Sees w w.heap.size A1 (Us x)) (h2 : Sees w w.heap.size A2 (Us x)) :
    Calls Try.prog 24 #[.slice A1 16 c1, .slice A2 16 c2] w fun e w' => e = .returned (.bool true) ∧ Below w.heap.size w w' := by
  have h := ref_same_yes A1 A2 c1 c2 x w h1 h2 (by rw [hx]; decide)
  rwa [hx] at h
theorem differ_16 (A1 A2 : Option Addr) (c1 c2 : Nat) (x y : List UInt8) (w : World) (hx : x.length = 16) (hy : y.length = 16) (hne : x ≠ y) (h1 : Sees w w.heap.size A1 (Us x)) (h2 : Sees w w.heap.size A2 (Us y)) :
    Calls Try.prog 24 #[.slice A1 16 c1, .slice A2 16 c2] w fun e w' => e = .returned (.bool false) ∧ Below w.heap.size w w' := by
  have h := ref_same_b A1 A2 c1 c2 x y w h1 h2 (by rw [hx]; decide)
  rwa [hx, hy, sameB_false hne] at h
def zero16 : List UInt8 := List.replicate 16 0
theorem make_16 (w : World) : (Instr.makeSlice 26 (.int .i64 16) (.int .i64 16)).run Try.prog w = .ok (.slice (some ⟨w.heap.size, 0, none⟩) 16 16) (w.alloc (.cells (Us zero16).toArray 5)) := by kernel_rfl
theorem sees_new (w : World) (l : List UInt8) (t : TypeId) : Sees (w.alloc (.cells (Us l).toArray t)) (w.alloc (.cells (Us l).toArray t)).heap.size (some ⟨w.heap.size, 0, none⟩) (Us l) :=
  SeesP.iff_sees.1 ((RowB.new (w := w) (t := t) (l := l) (by simp)).sees _ (by simp))
theorem wp_make_b {P : Program} {op : Oper} {a : Act} {w : World} {K : Act → World → Prop} {Q : Exit → Act → World → Prop} (ty : TypeId) (x y : Operand) (ho : op.op = .makeSlice ty x y) (vx vy : Value) (hx : a.eval x = vx) (hy : a.eval y = vy)
    (l : List UInt8) (n : Nat) (e : TypeId) (hm : (Instr.makeSlice ty vx vy).run P w = .ok (.slice (some ⟨w.heap.size, 0, none⟩) n n) (w.alloc (.cells (Us l).toArray e)))
    (hK : ∀ g w', Fresh w w' g → RowB w' g l → K (a.put op.dst (.slice (some ⟨g, 0, none⟩) n n)) w') : op.wp P a w K Q := by
  unfold Oper.wp execOp
  simp only [ho, hx, hy, Sem.run_bind, hm, Result.andThen_ok]
  exact hK _ _ ⟨rfl, _, rfl⟩ (RowB.new (by simp))
theorem RowB.sees_ {w : World} {g : Nat} {l : List UInt8} (h : RowB w g l) : Sees w w.heap.size (some ⟨g, 0, none⟩) (Us l) := SeesP.iff_sees.1 (h.sees _ h.lt)
theorem enc_ne : encZ ≠ zero16 := by decide

set_option maxRecDepth 40000 in
set_option maxHeartbeats 1000000 in
theorem awake (w : World) : Calls Try.prog 17 #[] w fun e w' => e = .returned (.bool true) ∧ Below w.heap.size w w' := by
  obtain ⟨kx, hkx⟩ : ∃ x, x = keyX := ⟨_, rfl⟩
  obtain ⟨zx, hzx⟩ : ∃ x, x = zero16 := ⟨_, rfl⟩
  obtain ⟨ex, hex⟩ : ∃ x, x = encZ := ⟨_, rfl⟩
  have HKL := Lib.hid (show kx.length = 16 by rw [hkx]; rfl)
  have HZL := Lib.hid (show zx.length = 16 by rw [hzx]; rfl)
  have HEL := Lib.hid (show ex.length = 16 by rw [hex]; rfl)
  have HE := Lib.hid (show encL kx zx = ex by rw [hkx, hzx, hex]; exact enc_zero)
  have HD := Lib.hid (show decL kx ex = zx by rw [hkx, hzx, hex]; exact dec_zero)
  have HN := Lib.hid (show ex ≠ zx by rw [hzx, hex]; exact enc_ne)
  have hk : ∀ w, Calls Try.prog 28 #[] w (Mk16 w kx) := fun w => by rw [hkx]; exact law_key w
  have hm : ∀ w, (Instr.makeSlice 26 (.int .i64 16) (.int .i64 16)).run Try.prog w = .ok (.slice (some ⟨w.heap.size, 0, none⟩) 16 16) (w.alloc (.cells (Us zx).toArray 5)) := fun w => by rw [hzx]; exact make_16 w
  have HK := Lib.hid hk
  clear hkx hzx hex hk
  have HD0 := Lib.hid (show Below w.heap.size w w.drew from (Below.refl _ _).drew)
  go_enter Try.func17, Try.ntmps17
  go_wp2_with fail
  have HM := Lib.hid hm
  clear hm
  refine wp_region_held_drew (S := Below w.heap.size w) (by kernel_rfl) HD0.out (fun hHeld => ?_)
  refine wpAnyH_ready (rs := [0, 1]) (by kernel_rfl) (by simp) ?_
  refine AllReadyH.cons rfl (fun K hK => ?_) (AllReadyH.cons rfl (fun K hK => ?_) AllReadyH.nil)
  · go_simp
    go_wp2_with (go_at_call 28; ((with_reducible refine (HK.out _).mono ?_); rintro e w1 ⟨A1, c1, rfl, hs, hb⟩); have HS1 := Lib.hid hs; have HB1 := Lib.hid (below_on HD0.out hb); clear hs hb)
    refine hK.out _ _ HB1.out (fun hHeld => ?_)
    clear hK K
    refine wpAnyH_ready (rs := [1]) (by kernel_rfl) (by simp) ?_
    refine AllReadyH.cons rfl (fun K hK => ?_) AllReadyH.nil
    rw [if_pos (by rfl)]
    refine wp_make_b 26 _ _ rfl (.int .i64 16) (.int .i64 16) (by go_simp) (by go_simp) zx 16 5 (HM.out _) ?_
    intro g w2 hf hr
    have HB2 := Lib.hid (hf.bl HB1.out)
    have HSK := Lib.hid (HS1.out.on hf.bw)
    have HSZ := Lib.hid hr.sees_
    clear hf hr HS1
    refine hK.out _ _ HB2.out (fun hHeld => ?_)
    clear hK K
    refine wpAnyH_ready (rs := [2]) (by kernel_rfl) (by simp) ?_
    refine AllReadyH.cons rfl (fun K hK => ?_) AllReadyH.nil
    go_simp
    go_wp2_with (go_at_call 22; ((with_reducible refine (enc_16 kx zx _ _ _ _ _ HKL.out HZL.out HSK.out HSZ.out).mono ?_); rintro e w3 ⟨A3, c3, rfl, hs, hb⟩); rw [HE.out] at hs; have HSE := Lib.hid hs; have HB3 := Lib.hid (below_on HB2.out hb); clear hs hb)
    refine hK.out _ _ HB3.out (fun hHeld => ?_)
    clear hK K
    refine wpAnyH_take (i := 3) (v := _) rfl (by kernel_rfl) (by kernel_rfl) (by kernel_rfl) (fun _ _ _ h => h) (Or.inl ⟨by rfl, (by intro w hSw; go_simp; first | done | with_reducible rfl)⟩) hHeld ?_
    simp only [Act.put]
    refine wpAnyH_take (i := 4) (v := _) rfl (by kernel_rfl) (by kernel_rfl) (by kernel_rfl) (fun _ _ _ h => h) (Or.inl ⟨by rfl, (by intro w hSw; go_simp; first | done | with_reducible rfl)⟩) hHeld ?_
    simp only [Act.put]
    refine wpAnyH_take (i := 5) (v := _) rfl (by kernel_rfl) (by kernel_rfl) (by kernel_rfl) (fun _ _ _ h => h) (Or.inl ⟨by rfl, (by intro w hSw; go_simp; first | done | with_reducible rfl)⟩) hHeld ?_
    simp only [Act.put]
    refine wpAnyH_take (i := 6) (v := _) rfl (by kernel_rfl) (by kernel_rfl) (by kernel_rfl) (fun _ _ _ h => h) (Or.inl ⟨by rfl, (by intro w hSw; go_simp; first | done | with_reducible rfl)⟩) hHeld ?_
    simp only [Act.put]
    refine wpAnyH_take (i := 7) (v := _) rfl (by kernel_rfl) (by kernel_rfl) (by kernel_rfl) (fun _ _ _ h => h) (Or.inl ⟨by rfl, (by intro w hSw; go_simp; first | done | with_reducible rfl)⟩) hHeld ?_
    simp only [Act.put]
    refine wpAnyH_done (by kernel_rfl) ?_ _
    clear HSK HSZ HB2 HB1 hHeld
    have hm := HM.out
    go_wp2_with (first
      | (go_at_call 28; ((with_reducible refine (HK.out _).mono ?_); rintro e w4 ⟨A4, c4, rfl, hs, hb⟩); have HSK := Lib.hid hs; have HB4 := Lib.hid (below_on HB3.out hb); have HSE4 := Lib.hid (HSE.out.on hb); clear hs hb)
      | (go_at_call 25; ((with_reducible refine (dec_16 kx ex _ _ _ _ _ HKL.out HEL.out HSK.out HSE4.out).mono ?_); rintro e w5 ⟨A5, c5, rfl, hs, hb⟩); rw [HD.out] at hs; have HSD := Lib.hid hs; have HB5 := Lib.hid (below_on HB4.out hb); have HSE5 := Lib.hid (HSE4.out.on hb); clear hs hb)
      | (go_at_call 24; ((with_reducible refine (same_16 A5 _ c5 _ zx _ HZL.out (HSD.out.alloc (Nat.le_refl _) _ |>.more (by simp)) (sees_new _ _ _)).mono ?_); rintro e w6 ⟨rfl, hb⟩); have HB6 := Lib.hid ((HB5.out.alloc HB5.out.size _).trans (hb.mono (by have := HB5.out.size; simp; omega))); have HSD6 := Lib.hid ((HSD.out.alloc (Nat.le_refl _) _ |>.more (by simp)).on hb); have HSE6 := Lib.hid ((HSE5.out.alloc (Nat.le_refl _) _ |>.more (by simp)).on hb); clear hb)
      | (go_at_call 24; ((with_reducible refine (differ_16 A3 A5 c3 c5 ex zx _ HEL.out HZL.out HN.out HSE6.out HSD6.out).mono ?_); rintro e w7 ⟨rfl, hb⟩); have HB7 := Lib.hid (below_on HB6.out hb); clear hb))
    go_ret
    exact ⟨rfl, HB7.out⟩
  · rw [if_pos (by rfl)]
    refine wp_make_b 26 _ _ rfl (.int .i64 16) (.int .i64 16) (by go_simp) (by go_simp) zx 16 5 (HM.out _) ?_
    intro g w1 hf hr
    have HB1 := Lib.hid (hf.bl HD0.out)
    have HR := Lib.hid hr
    clear hf hr
    refine hK.out _ _ HB1.out (fun hHeld => ?_)
    clear hK K
    refine wpAnyH_ready (rs := [0]) (by kernel_rfl) (by simp) ?_
    refine AllReadyH.cons rfl (fun K hK => ?_) AllReadyH.nil
    go_simp
    go_wp2_with (go_at_call 28; ((with_reducible refine (HK.out _).mono ?_); rintro e w2 ⟨A1, c1, rfl, hs, hb⟩); have HSK := Lib.hid hs; have HSZ := Lib.hid (HR.out.on hb).sees_; have HB2 := Lib.hid (below_on HB1.out hb); clear hs hb)
    refine hK.out _ _ HB2.out (fun hHeld => ?_)
    clear hK K HR
    refine wpAnyH_ready (rs := [2]) (by kernel_rfl) (by simp) ?_
    refine AllReadyH.cons rfl (fun K hK => ?_) AllReadyH.nil
    go_simp
    go_wp2_with (go_at_call 22; ((with_reducible refine (enc_16 kx zx _ _ _ _ _ HKL.out HZL.out HSK.out HSZ.out).mono ?_); rintro e w3 ⟨A3, c3, rfl, hs, hb⟩); rw [HE.out] at hs; have HSE := Lib.hid hs; have HB3 := Lib.hid (below_on HB2.out hb); clear hs hb)
    refine hK.out _ _ HB3.out (fun hHeld => ?_)
    clear hK K
    refine wpAnyH_take (i := 3) (v := _) rfl (by kernel_rfl) (by kernel_rfl) (by kernel_rfl) (fun _ _ _ h => h) (Or.inl ⟨by rfl, (by intro w hSw; go_simp; first | done | with_reducible rfl)⟩) hHeld ?_
    simp only [Act.put]
    refine wpAnyH_take (i := 4) (v := _) rfl (by kernel_rfl) (by kernel_rfl) (by kernel_rfl) (fun _ _ _ h => h) (Or.inl ⟨by rfl, (by intro w hSw; go_simp; first | done | with_reducible rfl)⟩) hHeld ?_
    simp only [Act.put]
    refine wpAnyH_take (i := 5) (v := _) rfl (by kernel_rfl) (by kernel_rfl) (by kernel_rfl) (fun _ _ _ h => h) (Or.inl ⟨by rfl, (by intro w hSw; go_simp; first | done | with_reducible rfl)⟩) hHeld ?_
    simp only [Act.put]
    refine wpAnyH_take (i := 6) (v := _) rfl (by kernel_rfl) (by kernel_rfl) (by kernel_rfl) (fun _ _ _ h => h) (Or.inl ⟨by rfl, (by intro w hSw; go_simp; first | done | with_reducible rfl)⟩) hHeld ?_
    simp only [Act.put]
    refine wpAnyH_take (i := 7) (v := _) rfl (by kernel_rfl) (by kernel_rfl) (by kernel_rfl) (fun _ _ _ h => h) (Or.inl ⟨by rfl, (by intro w hSw; go_simp; first | done | with_reducible rfl)⟩) hHeld ?_
    simp only [Act.put]
    refine wpAnyH_done (by kernel_rfl) ?_ _
    clear HSK HSZ HB2 HB1 hHeld
    have hm := HM.out
    go_wp2_with (first
      | (go_at_call 28; ((with_reducible refine (HK.out _).mono ?_); rintro e w4 ⟨A4, c4, rfl, hs, hb⟩); have HSK := Lib.hid hs; have HB4 := Lib.hid (below_on HB3.out hb); have HSE4 := Lib.hid (HSE.out.on hb); clear hs hb)
      | (go_at_call 25; ((with_reducible refine (dec_16 kx ex _ _ _ _ _ HKL.out HEL.out HSK.out HSE4.out).mono ?_); rintro e w5 ⟨A5, c5, rfl, hs, hb⟩); rw [HD.out] at hs; have HSD := Lib.hid hs; have HB5 := Lib.hid (below_on HB4.out hb); have HSE5 := Lib.hid (HSE4.out.on hb); clear hs hb)
      | (go_at_call 24; ((with_reducible refine (same_16 A5 _ c5 _ zx _ HZL.out (HSD.out.alloc (Nat.le_refl _) _ |>.more (by simp)) (sees_new _ _ _)).mono ?_); rintro e w6 ⟨rfl, hb⟩); have HB6 := Lib.hid ((HB5.out.alloc HB5.out.size _).trans (hb.mono (by have := HB5.out.size; simp; omega))); have HSD6 := Lib.hid ((HSD.out.alloc (Nat.le_refl _) _ |>.more (by simp)).on hb); have HSE6 := Lib.hid ((HSE5.out.alloc (Nat.le_refl _) _ |>.more (by simp)).on hb); clear hb)
      | (go_at_call 24; ((with_reducible refine (differ_16 A3 A5 c3 c5 ex zx _ HEL.out HZL.out HN.out HSE6.out HSD6.out).mono ?_); rintro e w7 ⟨rfl, hb⟩); have HB7 := Lib.hid (below_on HB6.out hb); clear hb))
    go_ret
    exact ⟨rfl, HB7.out⟩

end Go.Proofs.Ytddobbigpoplpaa
