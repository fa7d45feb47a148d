/-
  What is proved here: what the reference's right answers, for all texts; what its Shape answers.
-/
import Derived.Test.YtibahbkjjfmbgaaGreatDoorPY11
import Derived.Test.YtibahbkjjfmbgaaGreatDoorPY9
namespace Go.Proofs.YtibahbkjjfmbgaaGreatDoor
open Go.RowKit Go.Maps
set_option linter.unusedVariables false
def rightB (x : List UInt8) (y : Int) : Bool := decide (dgE x = 0 ∧ cB (dgL x) 0 = y)
set_option maxHeartbeats 1600000 in
theorem r_right (x : List UInt8) (y : Int) (b : Bool) (hb : rightB x y = b) (w : World) (hm : (S x).size ≤ 140737488355328) :
 Calls Tryz.prog 53 #[.string (S x), .int .u8 y] w fun e w' => e = .returned (.bool b) ∧ Below w.heap.size w w' := by
 have pd : ∀ w, Calls Tryz.prog 77 #[.string (S x)] w fun e w' => e = .returned (.tuple #[.string (S (dgL x)), .int .i64 (dgE x)]) ∧ Below w.heap.size w w' := fun w => r_digit (S x) x rfl w hm
 have HB := Lib.hid hb
 obtain ⟨T, hT⟩ : ∃ T, S x = T := ⟨_, rfl⟩
 rw [hT] at pd ⊢
 have HPD := Lib.hid pd
 clear hb pd hm hT
 rcases hv : validL x with _ | _
 · have h0 : dgE x = 12 := by unfold dgE; rw [hv]; rfl
   have hr : b = false := by rw [← HB.out]; unfold rightB; rw [h0]; rfl
   subst hr
   rw [h0] at HPD
   generalize S (dgL x) = D at *
   clear h0 hv HB
   go_enter Tryz.func53, Tryz.ntmps53
   go_wp2_with (go_at_call 77; ((with_reducible refine (HPD.out _).mono ?_); rintro e w1 ⟨rfl, hb1⟩))
   go_ret
   exact ⟨rfl, hb1⟩
 ·
  have h0 : dgE x = 0 := by unfold dgE; rw [hv]; rfl
  obtain ⟨c, hc⟩ : ∃ c, cB (dgL x) 0 = c := ⟨_, rfl⟩
  have hr : b = decide (c = y) := by rw [← HB.out]; unfold rightB; rw [h0, hc]; simp
  have hpos : 0 < (S (dgL x)).size := by rw [S_size]; unfold dgL; rw [hv]; simp
  rw [h0] at HPD
  obtain ⟨D, hD⟩ : ∃ D, S (dgL x) = D := ⟨_, rfl⟩
  have i0 := fun w => ix_lit0 (s := D) hD.symm (by rw [← hD]; exact hpos) hc w
  rw [hD] at HPD
  have HR := Lib.hid hr
  clear h0 hv HB hc hpos hD hr
  go_enter Tryz.func53, Tryz.ntmps53
  go_wp2_with (go_at_call 77; ((with_reducible refine (HPD.out _).mono ?_); rintro e w1 ⟨rfl, hb1⟩))
  go_ret
  exact ⟨by rw [HR.out]; by_cases h : c = y <;> simp [h], hb1⟩
theorem right_dg (x y : List UInt8) (hx : validL x = true) (hy : y.length = 1) : rightB x (cB y 0) = decide (y = dgL x) := by
 obtain ⟨a, rfl⟩ := List.length_eq_one_iff.1 hy
 have h0 : dgE x = 0 := by unfold dgE; rw [if_pos hx]
 obtain ⟨b, hb⟩ : ∃ b, dgL x = [b] := ⟨_, by unfold dgL; rw [if_pos hx]⟩
 unfold rightB
 rw [h0, hb]
 have e1 : cB [b] 0 = (b.toNat : Int) := rfl
 have e2 : cB [a] 0 = (a.toNat : Int) := rfl
 rw [e1, e2, decide_eq_decide]
 constructor
 · rintro ⟨_, h⟩
   have : b = a := UInt8.toNat_inj.1 (by omega)
   rw [this]
 · intro h
   have : a = b := by simpa using h
   exact ⟨rfl, by rw [this]⟩
theorem is60 (y : List UInt8) (D : ByteArray) (h : D = S y) : (D.toList == [60]) = decide (y = [60]) := by rw [h, S_toList, Bool.eq_iff_iff]; simp
theorem par_dig {ls : List (List UInt8)} {f : Int} (hsh : shapeL ls = f) (hf : f ≠ 0) (hav : allV ls = true) (h : digsB f (fd f ls) = false ∨ fd f ls 14 ≠ dgL (cmpT f ls)) : parE ls = 13 ∧ zV (parZ ls) = zon0 := by
 have h1 : parE ls = 13 := by unfold parE; rw [hsh, if_neg hf, if_neg (by rw [hav]; decide), if_pos h]
 refine ⟨h1, ?_⟩
 unfold parZ
 rw [h1, if_neg (by decide)]
 rfl
theorem par_ok {ls : List (List UInt8)} {f : Int} (hsh : shapeL ls = f) (hf : f ≠ 0) (hav : allV ls = true) (h1 : digsB f (fd f ls) = true) (h2 : fd f ls 14 = dgL (cmpT f ls)) :
 parE ls = if zoE f (fd f ls) ≠ 0 then zoE f (fd f ls) else vE (zoZ f (fd f ls)) := by
 unfold parE
 rw [hsh, if_neg hf, if_neg (by rw [hav]; decide), if_neg (by rw [h1]; exact fun h => h.elim (fun h => by cases h) (fun h => h h2))]
theorem par_zo {ls : List (List UInt8)} {f : Int} (hsh : shapeL ls = f) (hf : f ≠ 0) (hav : allV ls = true) (h1 : digsB f (fd f ls) = true) (h2 : fd f ls 14 = dgL (cmpT f ls)) {e : Int} (he : zoE f (fd f ls) = e) (hne : e ≠ 0) : parE ls = e ∧ zV (parZ ls) = zon0 := by
 have h3 : parE ls = e := by rw [par_ok hsh hf hav h1 h2, he, if_pos hne]
 refine ⟨h3, ?_⟩
 unfold parZ
 rw [h3, if_neg hne]
 rfl
theorem par_v {ls : List (List UInt8)} {f : Int} (hsh : shapeL ls = f) (hf : f ≠ 0) (hav : allV ls = true) (h1 : digsB f (fd f ls) = true) (h2 : fd f ls 14 = dgL (cmpT f ls)) (he : zoE f (fd f ls) = 0) : parE ls = vE (zoZ f (fd f ls)) ∧ parZ ls = if vE (zoZ f (fd f ls)) = 0 then zoZ f (fd f ls) else Zn.zero := by
 have h3 : parE ls = vE (zoZ f (fd f ls)) := by rw [par_ok hsh hf hav h1 h2, he, if_neg (by decide)]
 refine ⟨h3, ?_⟩
 unfold parZ
 rw [h3, hsh]
theorem sl_lh (X : ByteArray) (a b : Nat) (h1 : a ≤ b) (h2 : b ≤ X.size) (w : World) : (Instr.sliceAt 9 (.string X) (some (.int .i64 (a : Int))) (some (.int .i64 (b : Int))) none).run Tryz.prog w = .ok (.string (X.extract a b)) w := by
 have e1 : (a : Int) ≤ (b : Int) := by omega
 have e2 : (b : Int) ≤ (X.size : Int) := by omega
 simp [go_sem, Tryz.underlying9, e1, e2]
theorem sl_h (X : ByteArray) (b : Nat) (h2 : b ≤ X.size) (w : World) : (Instr.sliceAt 9 (.string X) none (some (.int .i64 (b : Int))) none).run Tryz.prog w = .ok (.string (X.extract 0 b)) w := by
 have e2 : (b : Int) ≤ (X.size : Int) := by omega
 simp [go_sem, Tryz.underlying9, e2]
theorem sl_l (X : ByteArray) (a : Nat) (h2 : a ≤ X.size) (w : World) : (Instr.sliceAt 9 (.string X) (some (.int .i64 (a : Int))) none none).run Tryz.prog w = .ok (.string (X.extract a X.size)) w := by
 have e2 : (a : Int) ≤ (X.size : Int) := by omega
 simp [go_sem, Tryz.underlying9, e2]
theorem run_trm (vs : Array Value) (w : World) : (callFunc 52 vs).run Tryz.prog w = .ok (.enter 52 vs) w :=
 run_enter (c := _) Tryz.func52 (by decide) rfl vs w
def zon3 (f : Int) (KD ST : ByteArray) : List Value := [.int .i64 f, .string KD, .string ST, .string ⟨#[]⟩, .string ⟨#[]⟩, .string ⟨#[]⟩, .string ⟨#[]⟩, .string ⟨#[]⟩, .string ⟨#[]⟩, .string ⟨#[]⟩, .string ⟨#[]⟩, .string ⟨#[]⟩]
theorem build_zp (f : Int) (KD ST : ByteArray) (w : World) : (Instr.build 44 #[(0, .int .i64 f), (1, .string KD), (2, .string ST)]).run Tryz.prog w = .ok (.agg (zon3 f KD ST).toArray) w := by kernel_rfl
theorem trm_b (X : ByteArray) (x : List UInt8) (hx : X = S x) (hm : X.size ≤ 140737488355328) (w : World) : Calls Tryz.prog 52 #[.string X] w fun e w' => e = .returned (.string (S (trimT x))) ∧ Below w.heap.size w w' :=
 (r_trim X x hx w hm).mono fun e w' h => ⟨h.1, by rw [h.2]; exact Below.refl _ _⟩
def WAS (ia iz : Nat) (w : World) (L : List (Nat × List Value)) (zs us : List Value) (g : Nat) (S : Nat → Bool) (cur : World) : Prop :=
 Own w cur L ∧ (S ia = true → S iz = false → Own w cur (L ++ [(g, zs)])) ∧ (S iz = true → Own w cur (L ++ [(g, us)]))
section
variable {w cur cur' : World} {ia iz g i : Nat} {zs us : List Value} {L : List (Nat × List Value)} {S : Nat → Bool}
theorem WAS.start (h : Own w cur L) : WAS ia iz w L zs us g (fun _ => false) cur := ⟨h, fun h => (by cases h), fun h => (by cases h)⟩
theorem WAS.skip (h : WAS ia iz w L zs us g S cur) (hb : Below cur.heap.size cur cur') (h7 : i ≠ ia) (h8 : i ≠ iz) : WAS ia iz w L zs us g (fun j => S j || j == i) cur' := by
 have e7 : (S ia || (ia == i)) = S ia := by simp [Ne.symm h7]
 have e8 : (S iz || (iz == i)) = S iz := by simp [Ne.symm h8]
 exact ⟨h.1.on hb, fun a b => (h.2.1 (e7.symm.trans a) (e8.symm.trans b)).on hb, fun a => (h.2.2 (e8.symm.trans a)).on hb⟩
theorem WAS.made (hne : ia ≠ iz) (h8 : S iz = false) (h : Own w cur (L ++ [(g, zs)])) : WAS ia iz w L zs us g (fun j => S j || j == ia) cur := by
 have e8 : (S iz || (iz == ia)) = false := by rw [h8]; simp [Ne.symm hne]
 exact ⟨h.pre, fun _ _ => h, fun a => absurd (e8.symm.trans a) (by decide)⟩
theorem WAS.put (h : Own w cur (L ++ [(g, us)])) : WAS ia iz w L zs us g (fun j => S j || j == iz) cur := by
 have e8 : (S iz || (iz == iz)) = true := by simp
 exact ⟨Own.pre (L := L) h, fun _ b => absurd (e8.symm.trans b) (by decide), fun _ => h⟩
end
end Go.Proofs.YtibahbkjjfmbgaaGreatDoor
