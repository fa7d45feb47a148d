/-
  What is proved here: what the reference's and the program's Hex return, where the argument lies in memory and is shorter than 2^47 bytes.
-/
import Derived.Test.YtelbphjdcekajaaRows
import Derived.Test.YtelbphjdcekajaaKit
import Derived.Test.YtelbphjdcekajaaConv
namespace Go.Proofs.Ytelbphjdcekajaa
open Go.RowKit

theorem hex_info : (Try.prog.info? 5).map (fun i => (i.zero, i.size, i.bytes)) = some (some (.int .u8 0), 1, 1) := by kernel_rfl

def hexDigit (k : Nat) : UInt8 := if k < 10 then UInt8.ofNat (48 + k) else UInt8.ofNat (87 + k)
def hexOf (c : UInt8) : List UInt8 := [hexDigit (c.toNat / 16), hexDigit (c.toNat % 16)]
def hexL (x : List UInt8) : List UInt8 := x.flatMap hexOf
theorem hexL_length (x : List UInt8) : (hexL x).length = 2 * x.length := by
  induction x with
  | nil => rfl
  | cons c x ih => simp only [hexL, List.flatMap_cons, List.length_append, List.length_cons] at ih ⊢; rw [ih]; simp [hexOf]; omega
theorem hexL_snoc {x : List UInt8} {k : Nat} (h : k < x.length) : hexL (x.take (k + 1)) = hexL (x.take k) ++ hexOf x[k] := by
  rw [List.take_succ_eq_append_getElem h]; simp only [hexL, List.flatMap_append, List.flatMap_cons, List.flatMap_nil, List.append_nil]

/-- the sixteen digits, as both texts lay them -/
def digs : ByteArray := { data := #[48, 49, 50, 51, 52, 53, 54, 55, 56, 57, 97, 98, 99, 100, 101, 102] }
theorem digs_get : ∀ q, (h : q < 16) → ({ data := #[48, 49, 50, 51, 52, 53, 54, 55, 56, 57, 97, 98, 99, 100, 101, 102] } : ByteArray)[q]'h = hexDigit q := by
  intro q h
  match q, h with
  | 0, _ => rfl
  | 1, _ => rfl
  | 2, _ => rfl
  | 3, _ => rfl
  | 4, _ => rfl
  | 5, _ => rfl
  | 6, _ => rfl
  | 7, _ => rfl
  | 8, _ => rfl
  | 9, _ => rfl
  | 10, _ => rfl
  | 11, _ => rfl
  | 12, _ => rfl
  | 13, _ => rfl
  | 14, _ => rfl
  | 15, _ => rfl
  | n + 16, h => exact absurd h (by omega)
theorem and15 (c : UInt8) : bits .and .u8 (c.toNat : Int) 15 = ((c.toNat % 16 : Nat) : Int) := by
  have h := u8_and_nat c.toNat 15 (UInt8.toNat_lt _) (by decide)
  rw [Nat.and_two_pow_sub_one_eq_mod c.toNat 4] at h
  simpa using h

theorem news_of_two (w : World) (l : List UInt8) (t : TypeId) : ∀ j u, (Us l)[j]? = some u → (w.alloc (.cells (Us l).toArray t)).cell? ((⟨w.heap.size, 0, none⟩ : Addr).add j) = some u := by
  have h := World.news_of_block (w := w.alloc (.cells (Us l).toArray t)) (heap_alloc_new w (.cells (Us l).toArray t))
  simpa using h
theorem hex_step {x : List UInt8} {k q r : Nat} (h : k < x.length) (hq : q = x[k].toNat / 16) (hr : r = x[k].toNat % 16) : Us (hexL (x.take k)) ++ Us [hexDigit q, hexDigit r] = Us (hexL (x.take (k + 1))) := by
  rw [hexL_snoc h, Us_append, hexOf, hq, hr]

set_option maxHeartbeats 400000 in
theorem oct_hex (A : Option Addr) (c n : Nat) (x : List UInt8) (w : World) (h : Sees w w.heap.size A (Us x)) (l : n = x.length) (m : n ≤ 140737488351232) :
    Calls Try.prog 11 #[.slice A n c] w fun e w' => e = .returned (.string (S (hexL x))) ∧ Below w.heap.size w w' := by
  obtain ⟨i0, hi, hz0, hz1, hz2⟩ := info_parts hex_info
  have L := Lib.hid l
  clear l
  go_enter Try.func11, Try.ntmps11
  go_wp2_with (at_make; refine wpList_make_own _ rfl _ _ 22 rfl w.heap.size 5 i0 (.int .u8 0) 1 Try.underlying22 hi hz0 hz1 _ _ _ (2 * n) rfl rfl (by simp) (by rw [hz2]; omega) (by unfold maxLen; omega) (Nat.le_refl _) ?_; intro w1 hown hgrow)
  have hb := (Below.refl w.heap.size w).grown hgrow (Nat.le_refl _) (by simp)
  clear hgrow
  go_wp2
  go_loopw [3, 12] (fun v i wr => ∃ k : Nat, k ≤ n ∧ i = .int .i64 k ∧ v = .slice (some ⟨w.heap.size, 0, none⟩) (2 * k) (2 * n) ∧
      wr.ownsRow w.heap.size 5 1 (.slice (some ⟨w.heap.size, 0, none⟩) (2 * k) (2 * n)) (2 * k) (Us (hexL (x.take k))) ∧ Below w.heap.size w wr) (fun _ i _ => n - (intOf i).toNat)
  case atStart => exact ⟨0, Nat.zero_le _, rfl, rfl, hown, hb⟩
  case round =>
    clear hown hb
    obtain ⟨k, hk, rfl, rfl, hown, hb⟩ := hrel
    by_cases hlt : k < n
    · have hkx : k < x.length := by have := L.out; omega
      obtain ⟨b1, o1, rfl, g1⟩ := byte_at h hb hkx
      go_wp2
      obtain ⟨q, hq⟩ : ∃ q, q = x[k].toNat / 16 := ⟨_, rfl⟩
      obtain ⟨r, hr⟩ : ∃ r, r = x[k].toNat % 16 := ⟨_, rfl⟩
      have hq16 : q < 16 := by have := UInt8.toNat_lt x[k]; omega
      have hr16 : r < 16 := by omega
      have e1 : (x[k].toNat : Int) / 16 = (q : Int) := by omega
      have e2 : bits .and .u8 (x[k].toNat : Int) 15 = (r : Int) := by rw [and15, hr]
      have e3 := digs_get q hq16
      have e4 := digs_get r hr16
      have HQ := Lib.hid hq
      have HR := Lib.hid hr
      have hqi : (q : Int) < 16 := by omega
      have hri : (r : Int) < 16 := by omega
      clear hq hr
      go_region_law (refine step_fits rfl (.tmp 16) (.tmp 23) 22 rfl w.heap.size 5 i0 1 Try.underlying22 hi hz1 w.heap.size (2 * k) (2 * n) _ rfl (hown.drew.alloc _) ⟨wr.heap.size, 0, none⟩ 2 2 (Us [hexDigit q, hexDigit r]) rfl rfl (news_of_two _ _ _) (Us_one _) (by omega) ?_; intro w2 hown2 hg2; have hb2 := (hb.drew.alloc hb.size _).grown hg2 (by have := hb.size; simp; omega) (by simp); rw [hex_step hkx HQ.out HR.out] at hown2; clear hg2)
      all_goals
        clear e1 e2 e3 e4 hown hb
        go_wp2
        go_roundw
        case rel => exact ⟨k + 1, by omega, by go_num, rfl, hown2, hb2⟩
        case measure => simp [intOf]; omega
    · have hf : hexL (x.take k) = hexL x := by rw [List.take_of_length_le (by have := L.out; omega)]
      have hc := run_conv wr _ _ _ (Sees.of_own hown) (2 * k) (2 * n) (by rw [hf, hexL_length, ← L.out]; omega)
      rw [hf] at hc
      clear hf hown
      go_wp2
      go_ret
      exact ⟨rfl, hb⟩

theorem hexDigit_lt (q : Nat) (h : q < 16) : (hexDigit q).toNat < 128 := by
  unfold hexDigit
  split
  · rw [UInt8.toNat_ofNat']; omega
  · rw [UInt8.toNat_ofNat']; omega
theorem encode_digit (q : Nat) (h : q < 16) : Utf8.encode ((hexDigit q).toNat : Int) = ⟨#[hexDigit q]⟩ := by
  have h1 := hexDigit_lt q h
  have hv : Utf8.valid ((hexDigit q).toNat : Int) = true := by
    unfold Utf8.valid; simp; omega
  unfold Utf8.encode
  rw [hv]
  simp only [if_true, Int.toNat_natCast]
  rw [if_pos h1, UInt8.ofNat_toNat]

theorem cat_size {s : ByteArray} {k : Nat} {a b : UInt8} (h : s.size = 2 * k) : (s ++ ((⟨#[a]⟩ : ByteArray) ++ ⟨#[b]⟩)).size = 2 * (k + 1) := by
  rw [ByteArray.size_append, ByteArray.size_append, h]; simp [ByteArray.size]; omega
theorem cat_eq {x : List UInt8} {s : ByteArray} {k q r : Nat} (h : k < x.length) (hs : s = S (hexL (x.take k))) (hq : q = x[k].toNat / 16) (hr : r = x[k].toNat % 16) :
    s ++ ((⟨#[hexDigit q]⟩ : ByteArray) ++ ⟨#[hexDigit r]⟩) = S (hexL (x.take (k + 1))) := by
  apply ByteArray.ext
  rw [hexL_snoc h, hs, hq, hr]
  simp [S, hexOf, ByteArray.data_append]

set_option maxHeartbeats 400000 in
theorem ref_hex (A : Option Addr) (c n : Nat) (x : List UInt8) (w : World) (B : Nat) (h : Sees w B A (Us x)) (l : n = x.length) (m : n ≤ 281474976710656) :
    Calls Try.prog 12 #[.slice A n c] w fun e w' => e = .returned (.string (S (hexL x))) ∧ ∃ d, w' = w.drewN d := by
  have L := Lib.hid l
  clear l
  go_enter Try.func12, Try.ntmps12
  go_wp2
  go_loopw [3, 4] (fun v i wr => ∃ (k d : Nat) (s : ByteArray), k ≤ n ∧ i = .int .i64 k ∧ v = .string s ∧ s.size = 2 * k ∧ Hid (s = S (hexL (x.take k))) ∧ wr = w.drewN d) (fun _ i _ => n - (intOf i).toNat)
  case atStart => exact ⟨0, 0, _, Nat.zero_le _, rfl, rfl, rfl, Lib.hid rfl, rfl⟩
  case round =>
    obtain ⟨k, d, s, hk, rfl, rfl, hs, HS, rfl⟩ := hrel
    by_cases hlt : k < n
    · have hkx : k < x.length := by have := L.out; omega
      obtain ⟨b1, o1, rfl, g1⟩ := byte_at h (Below.refl B w) hkx
      obtain ⟨q, hq⟩ : ∃ q, q = x[k].toNat / 16 := ⟨_, rfl⟩
      obtain ⟨r, hr⟩ : ∃ r, r = x[k].toNat % 16 := ⟨_, rfl⟩
      have hq16 : q < 16 := by have := UInt8.toNat_lt x[k]; omega
      have hr16 : r < 16 := by omega
      have e1 : (x[k].toNat : Int) / 16 = (q : Int) := by omega
      have e2 : (x[k].toNat : Int) % 16 = (r : Int) := by omega
      have e3 := digs_get q hq16
      have e4 := digs_get r hr16
      have e5 := encode_digit q hq16
      have e6 := encode_digit r hr16
      have HQ := Lib.hid hq
      have HR := Lib.hid hr
      have hqi : (q : Int) < 16 := by omega
      have hri : (r : Int) < 16 := by omega
      clear hq hr
      go_wp2
      go_quiet (fail)
      clear e1 e2 e3 e4 e5 e6 g1
      go_wp2
      go_roundw
      case rel => exact ⟨k + 1, d + nq, _, by omega, by go_num, rfl, cat_size hs, Lib.hid (cat_eq hkx HS.out HQ.out HR.out), rfl⟩
      case measure => simp [intOf]; omega
    · have hf : s = S (hexL x) := by rw [HS.out, List.take_of_length_le (by have := L.out; omega)]
      have HF := Lib.hid hf
      clear hf hs
      go_wp2
      go_ret
      exact ⟨by rw [← HF.out]; rfl, d, rfl⟩

theorem ref_hex_b (A : Option Addr) (c : Nat) (x : List UInt8) (w : World) (h : Sees w w.heap.size A (Us x)) (m : x.length ≤ 281474976710656) :
    Calls Try.prog 12 #[.slice A x.length c] w fun e w' => e = .returned (.string (S (hexL x))) ∧ Below w.heap.size w w' :=
  (ref_hex A c _ x w _ h rfl m).mono fun _ _ ⟨he, d, hw⟩ => ⟨he, by rw [hw]; exact below_drewN _ _ _⟩

end Go.Proofs.Ytelbphjdcekajaa
