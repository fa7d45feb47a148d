/-
  What is proved here: what the reference's Expand and SameLists answer.
-/
import Derived.Test.YtddobbigpoplpaaR3
import Derived.Test.YtddobbigpoplpaaAw5
namespace Go.Proofs.Ytddobbigpoplpaa
open Go.RowKit
set_option linter.unusedVariables false

set_option maxRecDepth 40000 in
set_option maxHeartbeats 400000 in
theorem ref_Exp (k : List UInt8) (A : Option Addr) (c : Nat) (w : World) (hk : k.length = 16) (hs : Sees w w.heap.size A (Us k)) :
    Calls Try.prog 19 #[.slice A 16 c] w (GivesL w (keysL k) 0) := by
  have HL := Lib.hid (And.intro hk hs)
  clear hk hs
  go_enter Try.func19, Try.ntmps19
  go_wp2_with (first
    | (go_at_call 47; ((with_reducible refine (ref_table _).mono ?_); rintro e w2 ⟨rfl, hb⟩); have HB2 := Lib.hid hb; clear hb)
    | ((with_reducible refine wpList_alloc_b (op := ⟨some 4, _, _, _, _, _⟩) rfl 55 rfl 256 info_x ?_); intro g w3 hf hr; have H3 := Lib.hid (And.intro hf hr); clear hf hr)
    | ((with_reducible refine wpList_store_all (ty := 55) (x := .tmp 4) (y := .tmp 8) (g := g) (l := List.replicate 256 0) (l2 := sb) rfl rfl ?hx ?hy H3.out.2 sb_len0 (sz_x sb_length) ?_); (case hx => go_simp); (case hy => go_simp); intro w4 hw hr; have H4 := Lib.hid (And.intro hw hr); clear hw hr; have HB4 := Lib.hid (H4.out.1.bl (H3.out.1.bl HB2.out) (H3.out.1.ge HB2.out)); have HT := Lib.hid (H4.out.2.tab sb_length); have HS4 := Lib.hid (HL.out.2.on HB4.out); clear HB2 H3 H4)
    | (go_at_call 48; ((with_reducible refine (ref_exp k g A c _ HL.out.1 HS4.out HT.out).mono ?_); rintro e w5 ⟨A5, c5, rfl, hs, hb⟩); have H5 := Lib.hid hs; have HB5 := Lib.hid (below_on HB4.out hb); clear hs hb))
  go_ret2
  exact ⟨A5, c5, by rw [keysL_length]; rfl, H5.out, HB5.out⟩
theorem ref_Exp_bad (A : Option Addr) (n c : Nat) (w : World) (h : n ≠ 16) (m : n ≤ 140737488351232) : Calls Try.prog 19 #[.slice A n c] w (GivesL w [] 2) := by
  have H := Lib.hid (show GivesL w [] 2 (.returned (.tuple #[.slice none 0 0, .int .i64 2])) w from ⟨none, 0, by simp, SeesL.nil_, Below.refl _ _⟩)
  have d2 : ((n : Int) != 16) = true := by simp; omega
  have d3 : ((n : Int) == 16) = false := by simp; omega
  go_enter Try.func19, Try.ntmps19
  go_wp2
  go_ret2
  exact H.out
theorem lists_at {w : World} {B : Nat} {A : Option Addr} {ls : List (List UInt8)} {i : Nat} (h : SeesL w B A ls) (hi : i < ls.length) : ∃ b off A2 c2, A = some ⟨b, off, none⟩ ∧ w.cell? ⟨b, off + i, none⟩ = some (.slice A2 (ls[i]).length c2) ∧ Sees w B A2 (Us ls[i]) := by
  obtain ⟨vs, h1, h2⟩ := h
  have hlt : i < vs.length := by rw [h2.1]; exact hi
  obtain ⟨b, off, e, _, hc⟩ := h1.at_ hlt
  obtain ⟨A2, c2, hv, hs⟩ := h2.2 i ls[i] (List.getElem?_eq_getElem hi)
  exact ⟨b, off, A2, c2, e, (hc i hlt).trans hv, hs⟩
set_option maxHeartbeats 1000000 in
theorem lists_same (A1 A2 : Option Addr) (c1 c2 : Nat) (ls : List (List UInt8)) (w : World) (hl : ls.length ≤ 1000) (hn : ∀ l ∈ ls, l.length ≤ 1000) (h1 : SeesL w w.heap.size A1 ls) (h2 : SeesL w w.heap.size A2 ls) :
    Calls Try.prog 21 #[.slice A1 ls.length c1, .slice A2 ls.length c2] w fun e w' => e = .returned (.bool true) ∧ ∃ n, w' = w.drewN n := by
  have H := Lib.hid (show _ ∧ _ ∧ _ from ⟨h1, h2, hn⟩)
  clear h1 h2 hn
  go_enter Try.func21, Try.ntmps21
  go_wp2
  go_loopw [5] (fun i wr => ∃ k : Nat, k ≤ ls.length ∧ i = .int .i64 (k : Int) ∧ Hid (∃ n, wr = w.drewN n)) (fun i _ => ls.length - (intOf i).toNat)
  case atStart => exact ⟨0, Nat.zero_le _, rfl, Lib.hid ⟨0, rfl⟩⟩
  case round =>
    obtain ⟨k, hk, rfl, HW⟩ := hrel
    by_cases hlt : k < ls.length
    · obtain ⟨b1, o1, B1, e1, rfl, g1, s1⟩ := lists_at H.out.1 hlt
      obtain ⟨b2, o2, B2, e2, rfl, g2, s2⟩ := lists_at H.out.2.1 hlt
      have hm : ls[k].length ≤ 1000 := H.out.2.2 _ (List.getElem_mem hlt)
      obtain ⟨l, hll⟩ : ∃ l, l = ls[k] := ⟨_, rfl⟩
      rw [← hll] at g1 g2 s1 s2 hm
      obtain ⟨d, hd⟩ := HW.out
      replace g1 : wr.cell? ⟨b1, o1 + k, none⟩ = some (.slice B1 l.length e1) := by rw [hd]; exact g1
      replace g2 : wr.cell? ⟨b2, o2 + k, none⟩ = some (.slice B2 l.length e2) := by rw [hd]; exact g2
      replace s1 : Sees wr w.heap.size B1 (Us l) := by rw [hd]; exact s1
      replace s2 : Sees wr w.heap.size B2 (Us l) := by rw [hd]; exact s2
      clear hd d
      have HS := Lib.hid (fun (m : Nat) => (show Calls Try.prog 24 #[.slice B1 l.length e1, .slice B2 l.length e2] (wr.drewN m) fun e w' => e = .returned (.bool true) ∧ ∃ n, w' = (wr.drewN m).drewN n from by
        have h := ref_same B1 B2 e1 e2 _ _ l l (wr.drewN m) w.heap.size s1 s2 rfl rfl (by unfold maxLen; omega)
        rwa [sameB_true rfl] at h))
      clear hll s1 s2
      go_wp2
      go_quiet ((go_at_call 24; exact Calls.quiet_of (HS.out _)))
      go_wp2
      go_roundw
      case rel => exact ⟨k + 1, by omega, by go_num, Lib.hid (by obtain ⟨d, hd⟩ := HW.out; exact ⟨d + nq, by rw [hd, World.drewN_drewN]⟩)⟩
      case measure => simp [intOf]; omega
    · go_wp2
      go_ret
      exact ⟨rfl, HW.out⟩

end Go.Proofs.Ytddobbigpoplpaa
