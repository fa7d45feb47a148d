/-
  What is proved here: what the program's Transliterate returns, for texts of at most 2^24 bytes.
-/
import Derived.Test.YtfkcnbcifidlgaaDoorOcl
namespace Go.Proofs.YtfkcnbcifidlgaaDoor
open Go.RowKit
set_option linter.unusedSimpArgs false

theorem Tx.iter {tb pb base : Nat} {t : List UInt8} {g : Bool} {v : Value} {w : World} (h : Tx tb pb base t g v w) (ib : Nat) (h1 : ib < base) (h2 : ib ≠ tb) (h3 : ib ≠ pb) (s : ByteArray) (p : Nat) : Tx tb pb base t g v (w.iterAt ib s p) := by
  refine ⟨(Lib.iterAt_other w ib tb s p (fun e => h2 e.symm)).trans h.cell, (Lib.iterAt_other w ib pb s p (fun e => h3 e.symm)).trans h.part, ?_, h.ne, h.lt, h.lp, by rw [Lib.iterAt_size]; exact h.up⟩
  refine h.own.kept (row := some ib) ⟨rfl, rfl, rfl, by rw [Lib.iterAt_size]; exact Nat.le_refl _, fun k _ hk => Lib.iterAt_other w ib k s p (fun e => hk (by rw [e]))⟩ ?_
  cases hv : v.ownBlock with
  | none => exact .inl rfl
  | some k => exact .inr (by intro e; have := (h.own.lt k hv).1; injection e with e; omega)

theorem tx_start (w0 : World) (s : ByteArray) : ∃ W, W = ((w0.alloc (.cells #[.slice none 0 0] 40)).alloc (.cells #[.bool false] 4)).iter s 0 ∧
    Tx w0.heap.size (w0.heap.size + 1) (w0.heap.size + 3) [] false (.slice none 0 0) W ∧ W.heap[w0.heap.size + 1 + 1]? = some (.stringIter s 0) ∧ Below w0.heap.size w0 W := by
  have hh : (((w0.alloc (.cells #[.slice none 0 0] 40)).alloc (.cells #[.bool false] 4)).iter s 0).heap = ((w0.heap.push (.cells #[.slice none 0 0] 40)).push (.cells #[.bool false] 4)).push (.stringIter s 0) := rfl
  refine ⟨_, rfl, ⟨?_, ?_, World.ownsRow_nil _ _ _ _, by omega, by omega, by omega, ?_⟩, ?_, ?_⟩
  · unfold One
    rw [hh, Array.getElem?_push, Array.size_push, Array.size_push, if_neg (by omega), Array.getElem?_push, Array.size_push, if_neg (by omega), Array.getElem?_push, if_pos rfl]
  · unfold One
    rw [hh, Array.getElem?_push, Array.size_push, Array.size_push, if_neg (by omega), Array.getElem?_push, Array.size_push, if_pos rfl]
  · rw [hh]; simp
  · rw [hh, Array.getElem?_push, Array.size_push, Array.size_push, if_pos rfl]
  · have b1 := (Below.refl w0.heap.size w0).alloc (Nat.le_refl _) (.cells #[.slice none 0 0] 40)
    have b2 := b1.alloc b1.size (.cells #[.bool false] 4)
    exact b2.alloc b2.size (.stringIter s 0)
theorem width_4 (s : ByteArray) (pos : Nat) : (Utf8.decode s pos).2 ≤ 4 := by
  rw [Lib.decode_N]
  have := Lib.decodeN_shape (s.data.toList.length - pos) (s.data.toList.getD pos 0).toNat (s.data.toList.getD (pos + 1) 0).toNat (s.data.toList.getD (pos + 2) 0).toNat (s.data.toList.getD (pos + 3) 0).toNat
  rcases this with ⟨_, e⟩ | ⟨_, _, _, _, e⟩ | ⟨_, _, _, _, _, _, e⟩ | ⟨_, _, _, _, _, _, _, e⟩ | e
  all_goals rw [e]; simp
/-- one rune more: the rest of the runes -/
theorem rl_step {s : ByteArray} {f pos : Nat} (hp : pos < s.size) (hf : s.size ≤ pos + f) : ∃ f', f = f' + 1 ∧ rl s f pos = (Utf8.decode s pos).1 :: rl s f' (pos + (Utf8.decode s pos).2) ∧ s.size ≤ (pos + (Utf8.decode s pos).2) + f' := by
  obtain ⟨f', rfl⟩ : ∃ f', f = f' + 1 := ⟨f - 1, by omega⟩
  have := width_1 s pos
  refine ⟨f', rfl, ?_, by omega⟩
  show (if pos < s.size then _ else _) = _
  rw [if_pos hp]
theorem rl_end {s : ByteArray} {f pos : Nat} (hp : ¬ pos < s.size) : rl s f pos = [] := by
  cases f with
  | zero => rfl
  | succ f => show (if pos < s.size then _ else _) = _; rw [if_neg hp]
theorem tr1_mark {c : Nat} {R : List Nat} (h : c = 39 ∨ c = 44 ∨ c = 46) (g : Bool) (t : List UInt8) : trL (c :: R) g t = trL R g t := by simp only [trL]; rw [if_pos h]
theorem tr1_gap {c : Nat} {R : List Nat} (h : c = 32 ∨ c = 45) (g : Bool) (t : List UInt8) : trL (c :: R) g t = trL R true t := by simp only [trL]; rw [if_neg (by omega), if_pos h]
theorem tr1_bad {c : Nat} {R : List Nat} (h : ¬ (c = 39 ∨ c = 44 ∨ c = 46)) (h2 : ¬ (c = 32 ∨ c = 45)) (hl : letP c = none) (g : Bool) (t : List UInt8) : trL (c :: R) g t = none := by simp only [trL]; rw [if_neg h, if_neg h2, hl]
theorem tr1_good {c : Nat} {R : List Nat} (h : ¬ (c = 39 ∨ c = 44 ∨ c = 46)) (h2 : ¬ (c = 32 ∨ c = 45)) {x : List UInt8} (hl : letP c = some x) (g : Bool) (t : List UInt8) :
    trL (c :: R) g t = trL R false (t ++ (if g = true ∧ t ≠ [] then [32] else []) ++ x) := by simp only [trL]; rw [if_neg h, if_neg h2, hl]

set_option maxRecDepth 40000 in
set_option maxHeartbeats 4000000 in
theorem p_tr_bad (s : ByteArray) (hs : s.size ≤ 16777216) (hv : Lib.validD s.data.toList = false) (w : World) (hU : Lib.Utf8Tabs 1 2 w) :
    Calls Tryd.prog 16 #[.string s] w fun e w' => e = .returned (.tuple #[.string ⟨#[]⟩, .int .i64 1]) ∧ Below w.heap.size w w' := by
  have hc := sh_utf8_ValidString s w (by omega) hU
  rw [hv] at hc
  have HC := Lib.hid hc
  clear hc hv hU
  go_enter Tryd.func16, Tryd.ntmps16
  go_wp2_with (go_at_call 31; refine HC.out.mono ?_; rintro e w' ⟨rfl, hw⟩)
  go_ret2
  exact ⟨rfl, hw⟩

set_option maxRecDepth 40000 in
set_option maxHeartbeats 8000000 in
theorem p_tr_good (s : ByteArray) (hs : s.size ≤ 16777216) (hv : Lib.validD s.data.toList = true) (w : World) (hT : TabL 3 rowsP w) (hU : Lib.Utf8Tabs 1 2 w) :
    Calls Tryd.prog 16 #[.string s] w fun e w' => e = .returned (.tuple #[.string (S ((trL (rl s s.size 0) false []).getD [])), .int .i64 (if (trL (rl s s.size 0) false []).isSome then 0 else 12)]) ∧ Below w.heap.size w w' := by
  have hc := sh_utf8_ValidString s w (by omega) hU
  rw [hv] at hc
  have HC := Lib.hid hc
  have HT := Lib.hid hT
  obtain ⟨T0, hT0⟩ : ∃ T0, trL (rl s s.size 0) false [] = T0 := ⟨_, rfl⟩
  rw [hT0]
  obtain ⟨rs, hrs⟩ : ∃ rs, S (T0.getD []) = rs := ⟨_, rfl⟩
  obtain ⟨rc, hrc⟩ : ∃ rc : Int, (if T0.isSome then 0 else 12) = rc := ⟨_, rfl⟩
  rw [hrs, hrc]
  have HT0 := Lib.hid hT0
  have HRS := Lib.hid hrs
  have HRC := Lib.hid hrc
  clear hc hv hU hT hT0 hrs hrc
  go_enter Tryd.func16, Tryd.ntmps16
  go_wp2_with (go_at_call 31; refine HC.out.mono ?_; rintro e w0 ⟨rfl, hw0⟩)
  obtain ⟨W0, hW0, hTx0, hit0, hbW0⟩ := tx_start w0 s
  rw [← hW0]
  have hbw0 := below_on hw0 hbW0
  obtain ⟨tb, htb⟩ : ∃ tb, w0.heap.size = tb := ⟨_, rfl⟩
  have hwt : w.heap.size ≤ tb := by have := hw0.size; omega
  rw [htb] at hTx0 hit0
  rw [htb]
  have HWT := Lib.hid hwt
  clear hW0 hbW0 htb hw0 hwt HC
  go_loopw [8] (fun _ wr => ∃ (pos f : Nat) (t : List UInt8) (g : Bool) (v : Value), wr.heap[tb + 1 + 1]? = some (.stringIter s pos) ∧ Hid (Tx tb (tb + 1) (tb + 3) t g v wr) ∧ Below w.heap.size w wr ∧ Hid (trL (rl s f pos) g t = T0) ∧ s.size ≤ pos + f ∧ t.length ≤ 3 * pos ∧ pos ≤ s.size + 4) (fun _ wr => s.size + 5 - wr.iterPos (tb + 1 + 1))
  case atStart => exact ⟨0, s.size, [], false, _, hit0, Lib.hid hTx0, hbw0, HT0, by omega, by simp, by omega⟩
  case round =>
    obtain ⟨pos, f, t, g, v, hit, HX, hbw, HF, hf, htl, hps⟩ := hrel
    clear hTx0 hit0 hbw0
    by_cases hp : pos < s.size
    · have hnx : ∀ ty, (Instr.next (.pointer (some ⟨tb + 1 + 1, 0, none⟩)) true ty).run Tryd.prog wr = _ := fun ty => Lib.run_next_any_at wr (tb + 1 + 1) s pos ty hit hp
      have hit2 := Lib.iterAt_heap wr (tb + 1 + 1) s pos (pos + (Utf8.decode s pos).2) hit
      have hbw2 := Lib.below_iterAt hbw (k := tb + 1 + 1) (by have := HWT.out; omega) s (pos + (Utf8.decode s pos).2)
      have HX2 := HX.out.iter (tb + 1 + 1) (by omega) (by omega) (by omega) s (pos + (Utf8.decode s pos).2)
      obtain ⟨f', hf1, hrl, hf2⟩ := rl_step hp hf
      have hw1 := width_1 s pos
      have hw4 : (Utf8.decode s pos).2 ≤ 4 := width_4 s pos
      have hcv : Lib.validRune (((Utf8.decode s pos).1 : Nat) : Int) = true := runes_valid s f pos _ (by rw [hrl]; simp)
      have hF1 := HF.out
      rw [hrl] at hF1
      have hmu : wr.iterPos (tb + 1 + 1) = pos := by simp [World.iterPos, hit]
      obtain ⟨p2, hp2⟩ : ∃ p2, pos + (Utf8.decode s pos).2 = p2 := ⟨_, rfl⟩
      have hp3 : pos < p2 := by omega
      have hp4 : p2 ≤ s.size + 4 := by omega
      rw [hp2] at hnx hit2 hbw2 HX2 hF1 hf2
      obtain ⟨W1, hW1⟩ : ∃ W1, wr.iterAt (tb + 1 + 1) s p2 = W1 := ⟨_, rfl⟩
      rw [hW1] at hnx hit2 hbw2 HX2
      obtain ⟨c, hc⟩ : ∃ c, (Utf8.decode s pos).1 = c := ⟨_, rfl⟩
      rw [hc] at hnx hcv hF1
      obtain ⟨m, hm⟩ : ∃ m : Int, (c : Int) = m := ⟨_, rfl⟩
      rw [hm] at hnx
      have HM := Lib.hid hm
      have HIT2 := Lib.hid hit2
      have HBW2 := Lib.hid hbw2
      have HTX2 := Lib.hid HX2
      have HCV := Lib.hid hcv
      have HF2 := Lib.hid hf2
      have HP := Lib.hid (And.intro hp3 (And.intro hp4 htl))
      have HMU := Lib.hid hmu
      clear hit hbw HX HF hf hit2 hbw2 HX2 hf1 hrl hf2 hw1 hw4 hcv hmu hp2 hp3 hp4 hW1 hc hm htl hps
      by_cases hmark : c = 39 ∨ c = 44 ∨ c = 46
      · have HF3 : Hid (trL (rl s f' p2) g t = T0) := Lib.hid (by rw [← hF1, tr1_mark hmark])
        have hmm : m = 39 ∨ m = 44 ∨ m = 46 := by have := HM.out; omega
        clear hmark hF1
        rcases hmm with rfl | rfl | rfl
        all_goals
          go_wp2_with fail
          go_roundw
          case rel => exact ⟨p2, f', t, g, v, HIT2.out, HTX2, HBW2.out, HF3, HF2.out, by have := HP.out; omega, HP.out.2.1⟩
          case measure =>
            have h1 : W1.iterPos (tb + 1 + 1) = p2 := by simp [World.iterPos, HIT2.out]
            have := HP.out; have := HMU.out; rw [h1]; omega
      · by_cases hgap : c = 32 ∨ c = 45
        · have HF3 : Hid (trL (rl s f' p2) true t = T0) := Lib.hid (by rw [← hF1, tr1_gap hgap])
          have hmm : m = 32 ∨ m = 45 := by have := HM.out; omega
          have hc1 := HTX2.out.part.cell
          have hc2 := HTX2.out.part.frozen
          have HTX3 := Lib.hid (HTX2.out.gap true)
          have HS3 := Lib.hid (Stp.set (tb := tb) (pb := tb + 1) (base := tb + 3) W1 (tb + 1) (.inr rfl) (.bool true))
          clear hmark hgap hF1
          rcases hmm with rfl | rfl
          all_goals
            go_wp2_with fail
            have hi3 : (W1.setCell ⟨tb + 1, 0, none⟩ (.bool true)).heap[tb + 1 + 1]? = some (.stringIter s p2) := (HS3.out.block _ (by omega) (by omega) (by omega)).trans HIT2.out
            have hb3 := HBW2.out.trans (HS3.out.below (B := w.heap.size) (by have := HWT.out; omega) (by have := HWT.out; omega) (by have := HWT.out; omega))
            go_roundw
            case rel => exact ⟨p2, f', t, true, v, hi3, HTX3, hb3, HF3, HF2.out, by have := HP.out; omega, HP.out.2.1⟩
            case measure =>
              have h1 : (W1.setCell ⟨tb + 1, 0, none⟩ (.bool true)).iterPos (tb + 1 + 1) = p2 := by simp [World.iterPos, hi3]
              have := HP.out; have := HMU.out; rw [h1]; omega
        · have q1 : (m == 39) = false := by rw [beq_eq_false_iff_ne]; have := HM.out; omega
          have q2 : (m == 44) = false := by rw [beq_eq_false_iff_ne]; have := HM.out; omega
          have q3 : (m == 46) = false := by rw [beq_eq_false_iff_ne]; have := HM.out; omega
          have q4 : (m == 32) = false := by rw [beq_eq_false_iff_ne]; have := HM.out; omega
          have q5 : (m == 45) = false := by rw [beq_eq_false_iff_ne]; have := HM.out; omega
          have hle := p_lf c HCV.out W1 (HT.out.below (by decide) HBW2.out)
          rw [HM.out] at hle
          rcases hlp : letP c with _ | x
          · have hF3 := tr1_bad hmark hgap hlp (R := rl s f' p2) g t
            rw [hF1] at hF3
            have e1 : rs = ⟨#[]⟩ := by rw [← HRS.out, hF3]; rfl
            have e2 : rc = 12 := by rw [← HRC.out, hF3]; rfl
            rw [hlp] at hle
            have hle2 : Calls Tryd.prog 33 #[.int .i32 m] W1 fun e w' => e = .returned (.tuple #[.string ⟨#[]⟩, .bool false]) ∧ Below W1.heap.size W1 w' := hle
            have HLE := Lib.hid hle2
            subst e1 e2
            clear hmark hgap hle hle2 hlp hF3 hF1 HRS HRC
            go_wp2_with (go_at_call 33; refine HLE.out.mono ?_; rintro e w' ⟨rfl, hw⟩)
            go_leave
            go_ret2
            exact ⟨rfl, below_on HBW2.out hw⟩
          · obtain ⟨x1, x2, x3⟩ := letP_some hlp
            have hF3 := tr1_good hmark hgap hlp (R := rl s f' p2) g t
            rw [hF1] at hF3
            rw [hlp] at hle
            obtain ⟨ox, hox⟩ : ∃ ox, S x = ox := ⟨_, rfl⟩
            have hle2 : Calls Tryd.prog 33 #[.int .i32 m] W1 fun e w' => e = .returned (.tuple #[.string ox, .bool true]) ∧ Below W1.heap.size W1 w' := by rw [← hox]; exact hle
            have HLE := Lib.hid hle2
            have HOX := Lib.hid hox
            have HX2 := Lib.hid x2
            have HF4 := Lib.hid hF3.symm
            have HHS := Lib.hid hs
            clear hmark hgap hle hle2 hlp hF3 hF1 HRS HRC hox x1 x2 x3 hs
            go_wp2_with (first
              | (go_at_call 33; refine HLE.out.mono ?_; rintro e w2 ⟨rfl, hw2⟩)
              | (go_at_call 32; refine (p_put tb (tb + 1) (tb + 3) t x g v ox HOX.out.symm _ (HTX2.out.below hw2) (by have := HP.out; have := HHS.out; omega) HX2.out).mono ?_; rintro e w3 ⟨⟨re, rfl⟩, hs3, v3, htx3⟩))
            have hi2 : w2.heap[tb + 1 + 1]? = some (.stringIter s p2) := (hw2.block _ ((Array.getElem?_eq_some_iff.1 HIT2.out).1)).trans HIT2.out
            have hi3 : w3.heap[tb + 1 + 1]? = some (.stringIter s p2) := (hs3.block _ (by omega) (by omega) (by omega)).trans hi2
            have hb3 := (below_on HBW2.out hw2).trans (hs3.below (B := w.heap.size) (by have := HWT.out; omega) (by have := HWT.out; omega) (by have := HWT.out; omega))
            have htl3 : (t ++ (if g = true ∧ t ≠ [] then [32] else []) ++ x).length ≤ 3 * p2 := by
              have h1 := HP.out
              have h2 := HX2.out
              rw [List.length_append, List.length_append]
              have h3 : (if g = true ∧ t ≠ [] then [32] else ([] : List UInt8)).length ≤ 1 := by split <;> simp
              omega
            go_roundw
            case rel => exact ⟨p2, f', _, false, v3, hi3, Lib.hid htx3, hb3, HF4, HF2.out, htl3, HP.out.2.1⟩
            case measure =>
              have h1 : w3.iterPos (tb + 1 + 1) = p2 := by simp [World.iterPos, hi3]
              have := HP.out; have := HMU.out; have := HHS.out; rw [h1]; omega
    · have hnx : ∀ ty, (Instr.next (.pointer (some ⟨tb + 1 + 1, 0, none⟩)) true ty).run Tryd.prog wr = _ := fun ty => Lib.run_next_end_at wr (tb + 1 + 1) s pos ty hit hp
      have hF3 := HF.out
      rw [rl_end hp] at hF3
      have hF4 : T0 = some t := hF3.symm
      have e1 : S t = rs := by rw [← HRS.out, hF4]; rfl
      have e2 : rc = 0 := by rw [← HRC.out, hF4]; rfl
      have hc1 := HX.out.cell.cell
      obtain ⟨A, n, rfl⟩ := own_len HX.out.own
      have hcv := run_conv wr wr.heap.size A t (Sees.of_own HX.out.own) t.length n rfl
      rw [e1] at hcv
      subst e2
      clear hF3 hF4 HF HRS HRC HX e1
      go_wp2_with fail
      go_leave
      go_ret2
      exact ⟨rfl, hbw⟩

end Go.Proofs.YtfkcnbcifidlgaaDoor
