/-
  What is proved here: what the program's code, Code and Check answer, for bytes that lie in memory.
-/
import Derived.Test.YtddobbigpoplpaaMc
namespace Go.Proofs.Ytddobbigpoplpaa
open Go.RowKit Go.Shelf
set_option linter.unusedVariables false
attribute [local go_sem] Oper.semAt_some

def zeroC : List UInt8 := List.replicate 16 0
/-- the check code -/
def codeL (key b : List UInt8) : List UInt8 := stN key zeroC (mskL b (dblL (encL key zeroC))) ((mskL b (dblL (encL key zeroC))).length / 16)
theorem codeL_length (key b : List UInt8) : (codeL key b).length = 16 := stN_length (by simp [zeroC]) _
/-- between two rounds: the last block -/
structure CdI (key iv p : List UInt8) (m Bl b : Nat) (w W6 : World) (pre : List (_root_.Fin m)) (X : World) : Prop where
  os : X.os = W6.os
  tape : X.tape = W6.tape
  output : X.output = W6.output
  size : W6.heap.size ≤ X.heap.size
  same : ∀ q, q < b → q ≠ Bl → X.heap[q]? = W6.heap[q]?
  lst : ∃ gl, X.cell? ⟨Bl, 0, none⟩ = some (.slice (some ⟨gl, 0, none⟩) 16 16) ∧ RowB X gl (stF key iv p pre) ∧ gl ≠ Bl ∧ (gl < b ∨ b + 4 ≤ gl) ∧ w.heap.size ≤ gl
  fr : X.frozen? ⟨Bl, 0, none⟩ = false
section
variable {key iv p : List UInt8} {m Bl b : Nat} {w W6 X Y : World} {pre : List (_root_.Fin m)}
theorem CdI.steps (h : CdI key iv p m Bl b w W6 pre X) (hB : Bl < b) (hb : b ≤ W6.heap.size) (hs : StepsU b X Y) : CdI key iv p m Bl b w W6 pre Y := by
  obtain ⟨gl, h1, h2, h3, h4, h5⟩ := h.lst
  have hX := h.size
  have s : ∀ q, q < b → Y.heap[q]? = X.heap[q]? := fun q hq => hs.2.2.2.2 q (by omega) (.inl hq)
  have hgl : Y.heap[gl]? = X.heap[gl]? := hs.2.2.2.2 gl h2.lt (by
    rcases h4 with h4 | h4
    · exact .inl h4
    · obtain ⟨ty, hc⟩ := h2
      exact .inr ⟨h4, _, hc, rfl⟩)
  exact ⟨hs.1.trans h.os, hs.2.1.trans h.tape, hs.2.2.1.trans h.output, Nat.le_trans h.size hs.2.2.2.1, fun q hq hn => (s q hq).trans (h.same q hq hn),
    ⟨gl, (World.cell?_of_block (s Bl hB)).trans h1, h2.same hgl, h3, h4, h5⟩, (World.frozen?_of_block (s Bl hB)).trans h.fr⟩
theorem CdI.next {x : _root_.Fin m} {gg : Nat} (h : CdI key iv p m Bl b w W6 pre X) (hB : Bl < b) (hw : w.heap.size ≤ b) (hg : b + 4 ≤ gg) (hr : RowB X gg (stF key iv p (pre ++ [x]))) :
    KeepsUp b X (X.setCell ⟨Bl, 0, none⟩ (.slice (some ⟨gg, 0, none⟩) 16 16)) ∧ CdI key iv p m Bl b w W6 (pre ++ [x]) (X.setCell ⟨Bl, 0, none⟩ (.slice (some ⟨gg, 0, none⟩) 16 16)) := by
  obtain ⟨gl, h1, h2, h3, h4, h5⟩ := h.lst
  have hz : (X.setCell ⟨Bl, 0, none⟩ (.slice (some ⟨gg, 0, none⟩) 16 16)).heap.size = X.heap.size := by simp [World.setCell]
  refine ⟨⟨by omega, fun q h6 h7 => heap_setCell_other _ _ _ _ (by show q ≠ Bl; omega)⟩, ?_⟩
  refine ⟨h.os, h.tape, h.output, by rw [hz]; exact h.size, fun q hq hn => (heap_setCell_other _ _ _ _ (by show q ≠ Bl; exact hn)).trans (h.same q hq hn), ⟨gg, ?_, hr.same (heap_setCell_other _ _ _ _ (by show gg ≠ Bl; omega)), by omega, .inr hg, by omega⟩, ?_⟩
  · exact World.cell?_setCell_same' _ _ _ (by rw [h1]; rfl)
  · rw [World.frozen?_setCell]
    exact h.fr
theorem CdI.keep {A : Option Addr} {cs : List Value} (h : CdI key iv p m Bl b w W6 pre X) (hs : SeesP W6 (fun q => q < b ∧ q ≠ Bl) A cs) : SeesP X (· < b + 2) A cs :=
  (hs.keep fun q hq => World.cell?_of_block (h.same q.block hq.1 hq.2)).imp fun q hq => by have := hq.1; omega
end
/-- three blocks of one cell each -/
def three (W : World) (u1 u2 u3 : Value) (t1 t2 t3 : TypeId) : World := ((W.alloc (.cells #[u1] t1)).alloc (.cells #[u2] t2)).alloc (.cells #[u3] t3)
theorem three_facts (W : World) (u1 u2 u3 : Value) (t1 t2 t3 : TypeId) : Below W.heap.size W (three W u1 u2 u3 t1 t2 t3) ∧ (three W u1 u2 u3 t1 t2 t3).heap.size = W.heap.size + 3 ∧
    (three W u1 u2 u3 t1 t2 t3).cell? ⟨W.heap.size, 0, none⟩ = some u1 ∧ (three W u1 u2 u3 t1 t2 t3).cell? ⟨W.heap.size + 1, 0, none⟩ = some u2 ∧ (three W u1 u2 u3 t1 t2 t3).cell? ⟨W.heap.size + 2, 0, none⟩ = some u3 := by
  have e1 : (three W u1 u2 u3 t1 t2 t3).heap[W.heap.size]? = some (.cells #[u1] t1 (0, 0)) := by
    unfold three
    rw [Below.heap_alloc _ _ _ (by simp; omega), Below.heap_alloc _ _ _ (by simp), heap_alloc_new]
  have e2 : (three W u1 u2 u3 t1 t2 t3).heap[W.heap.size + 1]? = some (.cells #[u2] t2 (0, 0)) := by
    have h := heap_alloc_new (W.alloc (.cells #[u1] t1)) (.cells #[u2] t2)
    rw [World.size_alloc] at h
    unfold three
    rw [Below.heap_alloc _ _ _ (by simp), h]
  have e3 : (three W u1 u2 u3 t1 t2 t3).heap[W.heap.size + 2]? = some (.cells #[u3] t3 (0, 0)) := by
    have h := heap_alloc_new ((W.alloc (.cells #[u1] t1)).alloc (.cells #[u2] t2)) (.cells #[u3] t3)
    rw [World.size_alloc, World.size_alloc] at h
    exact h
  refine ⟨?_, by simp [three], ?_, ?_, ?_⟩
  · unfold three
    exact (((Below.refl _ W).alloc (Nat.le_refl _) _).alloc (by simp) _).alloc (by simp; omega) _
  · rw [cell_of_row _ _ 0 _ _ _ e1]; rfl
  · rw [cell_of_row _ _ 0 _ _ _ e2]; rfl
  · rw [cell_of_row _ _ 0 _ _ _ e3]; rfl
theorem masked_n {b k1 M : List UInt8} {A1 A2 : Option Addr} {n c1 c2 L : Nat} {w : World} (hn : b.length = n) (hM : mskL b k1 = M) (hL : M.length = L) (hk : k1.length = 16) (hl : n ≤ 140737488351280) (h1 : SeesP w (· < w.heap.size) A1 (Us b)) (h2 : SeesP w (· < w.heap.size) A2 (Us k1)) :
    Calls Try.prog 76 #[.slice A1 n c1, .slice A2 16 c2] w fun e w' => ∃ g, e = .returned (.slice (some ⟨g, 0, none⟩) L L) ∧ w.heap.size ≤ g ∧ RowB w' g M ∧ Below w.heap.size w w' := by
  subst hn hM hL
  exact prog_masked b k1 A1 A2 c1 c2 w hk hl h1 h2

set_option maxRecDepth 100000 in
set_option maxHeartbeats 1000000 in
theorem prog_code (key b : List UInt8) (A1 A2 : Option Addr) (c1 c2 : Nat) (w : World) (hk : key.length = 16) (hl : b.length ≤ 140737488351280) (h1 : SeesP w (· < w.heap.size) A1 (Us key)) (h2 : SeesP w (· < w.heap.size) A2 (Us b)) :
    Calls Try.prog 60 #[.slice A1 16 c1, .slice A2 b.length c2] w (One16 w (codeL key b)) := by
  obtain ⟨z, hz⟩ : ∃ z, z = zeroC := ⟨_, rfl⟩
  obtain ⟨k0, hk0⟩ : ∃ k0, k0 = encL key z := ⟨_, rfl⟩
  obtain ⟨k1, hk1⟩ : ∃ k1, k1 = dblL k0 := ⟨_, rfl⟩
  obtain ⟨M, hM⟩ : ∃ M, M = mskL b k1 := ⟨_, rfl⟩
  obtain ⟨m, hm⟩ : ∃ m, m = M.length / 16 := ⟨_, rfl⟩
  obtain ⟨N, hN⟩ : ∃ N, N = b.length := ⟨_, rfl⟩
  have hw := mskL_whole b k1
  rw [← hM] at hw
  have HL := Lib.hid (show key.length = 16 ∧ z.length = 16 ∧ encL key z = k0 ∧ dblL k0 = k1 ∧ mskL b k1 = M ∧ M.length = 16 * m ∧ b.length = N ∧ k0.length = 16 ∧ k1.length = 16 from
    ⟨hk, by rw [hz]; simp [zeroC], hk0.symm, hk1.symm, hM.symm, by omega, hN.symm, by rw [hk0]; exact encL_length _ _, by rw [hk1]; exact dblL_length _⟩)
  have HC := Lib.hid (show codeL key b = stN key z M m from by unfold codeL; rw [← hz, ← hk0, ← hk1, ← hM, ← hm])
  have HS := Lib.hid (show _ ∧ _ from ⟨h1, h2⟩)
  have hm16 : 16 * m ≤ 140737488351300 := by omega
  have hmk : ∀ w, (Instr.makeSlice 26 (.int .i64 16) (.int .i64 16)).run Try.prog w = .ok (.slice (some ⟨w.heap.size, 0, none⟩) 16 16) (w.alloc (.cells (Us z).toArray 5)) := fun w => by rw [hz]; kernel_rfl
  have hZ0 : RowB (w.alloc (.cells (Us z).toArray 5)) w.heap.size z := RowB.new rfl
  have HZ0 := Lib.hid (show Sees (w.alloc (.cells (Us z).toArray 5)) (w.alloc (.cells (Us z).toArray 5)).heap.size (some ⟨w.heap.size, 0, none⟩) (Us z) ∧ Sees (w.alloc (.cells (Us z).toArray 5)) (w.alloc (.cells (Us z).toArray 5)).heap.size A1 (Us key) ∧ RowB (w.alloc (.cells (Us z).toArray 5)) w.heap.size z ∧ Below w.heap.size w (w.alloc (.cells (Us z).toArray 5)) from
    ⟨SeesP.iff_sees.1 (hZ0.sees _ hZ0.lt), SeesP.iff_sees.1 (h1.up ((Below.refl _ _).alloc (Nat.le_refl _) _)), hZ0, (Below.refl _ _).alloc (Nat.le_refl _) _⟩)
  rw [← hN] at hl ⊢
  clear hz hk0 hk1 hM hm hw hk hN hZ0 h1 h2
  refine (callsIn_wide (n := 9)).1 ?_
  refine callsIn_of_wp_marks Try.func60 rfl trivial ?_ rfl
  simp only [Try.ntmps60, List.size_toArray, List.length_cons, List.length_nil, Nat.reduceAdd, Nat.reduceSub, Array.replicate_succ, Array.replicate_zero, List.push_toArray, List.append_toArray, List.nil_append, List.cons_append]
  refine wpIn_wide.2 ?_
  go_wp2_with (first
    | (go_at_call 22; ((with_reducible refine (aes_enc_row key z _ _ _ _ _ HL.out.1 HL.out.2.1 HZ0.out.2.1 HZ0.out.1).mono ?_); rintro e w2 ⟨g0, rfl, hg0, hr0, hb0⟩); rw [HL.out.2.2.1] at hr0; have H2 := Lib.hid (show RowB w2 g0 k0 ∧ RowB w2 w.heap.size z ∧ Below w.heap.size w w2 ∧ w.heap.size < w2.heap.size ∧ Below w2.heap.size w2 (w2.alloc (.cells #[.slice (some ⟨w.heap.size, 0, none⟩) 16 16] 26)) from ⟨hr0, HZ0.out.2.2.1.on hb0, below_on HZ0.out.2.2.2 hb0, by have := hb0.size; simp at this; omega, (Below.refl _ _).alloc (Nat.le_refl _) _⟩); have H3 := Lib.hid (show SeesP (w2.alloc (.cells #[.slice (some ⟨w.heap.size, 0, none⟩) 16 16] 26)) (· < (w2.alloc (.cells #[.slice (some ⟨w.heap.size, 0, none⟩) 16 16] 26)).heap.size) (some ⟨g0, 0, none⟩) (Us k0) from ((H2.out.1.on H2.out.2.2.2.2).sees _ (H2.out.1.on H2.out.2.2.2.2).lt)); clear hg0 hr0 hb0)
    | (go_at_call 77; ((with_reducible refine (prog_double k0 _ _ _ HL.out.2.2.2.2.2.2.2.1 H3.out).mono ?_); rintro e w4 ⟨g4, rfl, hg4, hr4, hb4⟩); rw [HL.out.2.2.2.1] at hr4; have H4 := Lib.hid (show RowB w4 g4 k1 ∧ Below w2.heap.size w2 w4 ∧ w4.heap[w2.heap.size]? = some (.cells #[.slice (some ⟨w.heap.size, 0, none⟩) 16 16] 26 (0, 0)) ∧ w2.heap.size < w4.heap.size from ⟨hr4, H2.out.2.2.2.2.trans (hb4.mono (by simp)), (hb4.block w2.heap.size (by simp)).trans (heap_alloc_new w2 _), by have := hb4.size; simp at this; omega⟩); have H4s := Lib.hid (show SeesP w4 (· < w4.heap.size) A2 (Us b) ∧ SeesP w4 (· < w4.heap.size) (some ⟨g4, 0, none⟩) (Us k1) from ⟨HS.out.2.up (H2.out.2.2.1.trans (H4.out.2.1.mono H2.out.2.2.1.size)), hr4.sees _ hr4.lt⟩); clear hg4 hr4 hb4)
    | (go_at_call 76; ((with_reducible refine (masked_n HL.out.2.2.2.2.2.2.1 HL.out.2.2.2.2.1 HL.out.2.2.2.2.2.1 HL.out.2.2.2.2.2.2.2.2 hl H4s.out.1 H4s.out.2).mono ?_); rintro e w5 ⟨g5, rfl, hg5, hr5, hb5⟩); have H5 := Lib.hid (show RowB w5 g5 M ∧ w4.heap.size ≤ g5 ∧ Below w4.heap.size w4 w5 from ⟨hr5, hg5, hb5⟩); clear hg5 hr5 hb5)
    | (go_at_call 73; (with_reducible refine (prog_encrypted _ _ _ _ _ _ _ _ _ _).mono ?_); rintro e w' ⟨rfl, rfl⟩))
  have hF := three_facts w5 (.slice A1 16 c1) (.slice (some ⟨w.heap.size, 0, none⟩) 16 16) (.slice (some ⟨g5, 0, none⟩) (16 * m) (16 * m)) 26 26 26
  generalize hW6 : three w5 (.slice A1 16 c1) (.slice (some ⟨w.heap.size, 0, none⟩) 16 16) (.slice (some ⟨g5, 0, none⟩) (16 * m) (16 * m)) 26 26 26 = W6 at hF
  have HW : (((w5.alloc (.cells #[.slice A1 16 c1] 26)).alloc (.cells #[.slice (some ⟨w.heap.size, 0, none⟩) 16 16] 26)).alloc (.cells #[.slice (some ⟨g5, 0, none⟩) (16 * m) (16 * m)] 26)) = W6 := hW6
  rw [HW]
  clear HW hW6
  obtain ⟨hF1, hF2, hF3, hF4, hF5⟩ := hF
  have z1 := H2.out.2.2.2.1
  have z2 := H4.out.2.2.2
  have z3 := H5.out.2.2.size
  have hw6 : ∀ q, q < w4.heap.size → W6.heap[q]? = w4.heap[q]? := fun q hq => (hF1.block q (by omega)).trans (H5.out.2.2.block q hq)
  have hb6 : Below w.heap.size w W6 := (H2.out.2.2.1.trans (H4.out.2.1.mono (by omega))).trans ((H5.out.2.2.mono (by omega)).trans (hF1.mono (by omega)))
  have hz6 : RowB W6 w.heap.size z := H2.out.2.1.same ((hw6 _ (by omega)).trans (H4.out.2.1.block _ z1))
  have hm6 : RowB W6 g5 M := H5.out.1.on hF1
  have hg5 := H5.out.1.lt
  have HV := Lib.hid (show SeesP W6 (fun q => q < w5.heap.size + 3 ∧ q ≠ w2.heap.size) A1 (Us key) ∧ SeesP W6 (fun q => q < w5.heap.size + 3 ∧ q ≠ w2.heap.size) (some ⟨w.heap.size, 0, none⟩) (Us z) ∧ SeesP W6 (fun q => q < w5.heap.size + 3 ∧ q ≠ w2.heap.size) (some ⟨g5, 0, none⟩) (Us M) from
    ⟨(HS.out.1.keep fun q hq => hb6.cell hq).imp fun q hq => ⟨by omega, by omega⟩, hz6.sees _ ⟨by omega, by omega⟩, hm6.sees _ ⟨by omega, by have := H5.out.2.1; omega⟩⟩)
  have HI0 := Lib.hid (show CdI key z M m w2.heap.size (w5.heap.size + 3) w W6 [] W6 from
    ⟨rfl, rfl, rfl, Nat.le_refl _, fun _ _ _ => rfl, ⟨w.heap.size, by rw [cell_of_row W6 w2.heap.size 0 _ _ _ ((hw6 _ z2).trans H4.out.2.2.1)]; rfl, hz6, by omega, .inl (by omega), Nat.le_refl _⟩, frozen_of_row W6 w2.heap.size 0 _ _ ((hw6 _ z2).trans H4.out.2.2.1)⟩)
  have HB6 := Lib.hid hb6
  clear hw6 hb6 hz6 hm6 HZ0 H2 H3 H4 H4s H5
  refine wpIn_wide.1 (?_ : Code.wpIn Fence.wide 9 _ _ _ _ _)
  refine range_e (enc1 key z M m w5.heap.size A1 (some ⟨w.heap.size, 0, none⟩) (some ⟨g5, 0, none⟩) c1 16 (16 * m) HL.out.1 HL.out.2.1 HL.out.2.2.2.2.2.1 (Nat.le_refl _) (by omega)) rfl (enters_of Try.func78 (by kernel_rfl) rfl) rfl
    (CdI key z M m w2.heap.size (w5.heap.size + 3) w W6) (fun s X Y h hst => h.steps (by omega) (by omega) (by rw [hF2] at hst; exact hst))
    (fun s X h => by
      rw [hF2]
      exact ⟨by omega, (World.cell?_of_block (h.same w5.heap.size (by omega) (by omega))).trans hF3, (World.cell?_of_block (h.same (w5.heap.size + 1) (by omega) (by omega))).trans hF4, (World.cell?_of_block (h.same (w5.heap.size + 2) (by omega) (by omega))).trans hF5, h.keep HV.out.1, h.keep HV.out.2.1, h.keep HV.out.2.2⟩) HI0.out
    (fun gg => { tmps := #[.slice A1 16 c1, .slice A2 N c2, undef, undef, .slice none 0 0, .slice (some ⟨w.heap.size, 0, none⟩) 16 16, .slice (some ⟨g0, 0, none⟩) 16 16, .int .i64 0, .pointer (some ⟨w2.heap.size, 0, none⟩), .slice (some ⟨gg, 0, none⟩) 16 16, .slice (some ⟨w.heap.size, 0, none⟩) 16 16, .tuple #[.slice (some ⟨g0, 0, none⟩) 16 16, .int .i64 0], .slice A1 16 c1, .slice (some ⟨w.heap.size, 0, none⟩) 16 16, .tuple #[.slice (some ⟨g0, 0, none⟩) 16 16, .int .i64 0], .slice (some ⟨g0, 0, none⟩) 16 16, .int .i64 0, .slice (some ⟨w.heap.size, 0, none⟩) 16 16, .slice A1 16 c1, .slice (some ⟨w.heap.size, 0, none⟩) 16 16, .slice A2 N c2, .slice (some ⟨g0, 0, none⟩) 16 16, .slice (some ⟨g4, 0, none⟩) 16 16, .slice (some ⟨g5, 0, none⟩) (16 * m) (16 * m), .func (.func 78) #[] #[.pointer (some ⟨w5.heap.size + 1, 0, none⟩), .pointer (some ⟨w5.heap.size + 2, 0, none⟩), .pointer (some ⟨w5.heap.size, 0, none⟩)], .slice (some ⟨gg, 0, none⟩) 16 16, undef, undef], defers := [] }) ?assign ?body ?done
  case assign =>
    intro l gg X K hK
    gi_wp2
    exact hK
  case body =>
    intro l pre x gg X hI hlen hgg hrow
    have HI := Lib.hid hI
    have HR := Lib.hid (show RowB X gg (stF key z M (pre ++ [x])) from hrow)
    obtain ⟨gl, y1, _⟩ := hI.lst
    have y2 := hI.fr
    have HN := Lib.hid (HI.out.next (gg := gg) (by omega) (by omega) (by omega) HR.out)
    rw [hF2]
    clear hI hrow hgg HI0 HI HR
    gi_wp2
    exact HN.out
  case done =>
    intro D X hD hI hK
    obtain ⟨gl, y1, hr, hgl, _, hgw⟩ := hI.lst
    have hne : gl ≠ D := fun e => by
      subst e
      obtain ⟨ty, hc⟩ := hr
      rw [hK] at hc
      cases hc
    have HF := Lib.hid (show One16 w (codeL key b) (.returned (.slice (some ⟨gl, 0, none⟩) 16 16)) (X.putObj D (.deferred none)) from by
      rw [HC.out, ← stF_all]
      exact ⟨gl, rfl, hgw, hr.same (World.putObj_heap_other hne), (show Below w.heap.size w X from ⟨hI.os.trans HB6.out.os, hI.tape.trans HB6.out.tape, hI.output.trans HB6.out.output, Nat.le_trans HB6.out.size hI.size, fun q hq => (hI.same q (by omega) (by omega)).trans (HB6.out.block q hq)⟩).trans (belowK_b (w := w) (Nat.le_refl _) X D _ _ (by omega) hK rfl rfl)⟩)
    clear hI HI0 hr
    go_wp2
    refine ⟨by simp, .inl ⟨_, _, rfl, run_takeDeferred hK, ?_⟩⟩
    refine ⟨_, results_tmp rfl _ _ _, ?_⟩
    exact HF.out

/-- what Code and Check answer -/
def cdB (key b : List UInt8) : List UInt8 := if key.length = 16 then codeL key b else []
def cdE (n : Nat) : Int := if n = 16 then 0 else 14
def ckB (key b : List UInt8) : List UInt8 := (cdB key b).take 8
theorem cdB_le (key b : List UInt8) : (cdB key b).length ≤ 16 := by
  unfold cdB
  split
  · rw [codeL_length]; exact Nat.le_refl _
  · simp
set_option maxHeartbeats 400000 in
theorem modes_code (key b : List UInt8) (A1 A2 : Option Addr) (c1 c2 : Nat) (w : World) (m1 : key.length ≤ 140737488351280) (hl : b.length ≤ 140737488351280) (h1 : SeesP w (· < w.heap.size) A1 (Us key)) (h2 : SeesP w (· < w.heap.size) A2 (Us b)) :
    Calls Try.prog 40 #[.slice A1 key.length c1, .slice A2 b.length c2] w fun e w' => (key.length = 16 → Row16 w (codeL key b) e w') ∧ (key.length ≠ 16 → e = .returned (.tuple #[.slice none 0 0, .int .i64 14]) ∧ Below w.heap.size w w') := by
  by_cases h16 : key.length = 16
  · have HC := Lib.hid (prog_code key b A1 A2 c1 c2 w h16 hl h1 h2)
    rw [h16]
    clear h1 h2 h16
    go_enter Try.func40, Try.ntmps40
    go_wp2_with (go_at_call 60; (with_reducible refine HC.out.mono ?_); rintro e w1 ⟨g, rfl, hg, hr, hb⟩; have H1 := Lib.hid (show _ ∧ _ ∧ _ from ⟨hg, hr, hb⟩); clear hg hr hb)
    go_ret2
    exact ⟨fun _ => ⟨g, rfl, H1.out⟩, fun h => absurd rfl h⟩
  · obtain ⟨n, hn⟩ : ∃ n, n = key.length := ⟨_, rfl⟩
    rw [← hn] at h16 m1 ⊢
    have d2 : ((n : Int) != 16) = true := by rw [bne_iff_ne]; omega
    have d3 : ((n : Int) == 16) = false := by rw [beq_eq_false_iff_ne]; omega
    clear h1 h2 hn
    go_enter Try.func40, Try.ntmps40
    go_wp2
    go_ret2
    exact ⟨fun h => absurd h h16, fun _ => ⟨rfl, Below.refl _ _⟩⟩

end Go.Proofs.Ytddobbigpoplpaa
