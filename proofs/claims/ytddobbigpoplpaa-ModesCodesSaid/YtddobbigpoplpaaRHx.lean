/-
  What is proved here: what the reference's Hex and Same return, where the argument lies in memory.
-/
import Derived.Test.YtddobbigpoplpaaRows
import Derived.Test.YtddobbigpoplpaaKit
import Derived.Test.YtddobbigpoplpaaRef
import Derived.Test.YtddobbigpoplpaaStr
namespace Go.Proofs.Ytddobbigpoplpaa
open Go.RowKit

def hexDigit (k : Nat) : UInt8 := if k < 10 then UInt8.ofNat (48 + k) else UInt8.ofNat (87 + k)
def hexOf (c : UInt8) : List UInt8 := [hexDigit (c.toNat / 16), hexDigit (c.toNat % 16)]
def hexL (x : List UInt8) : List UInt8 := x.flatMap hexOf
theorem hexL_length (x : List UInt8) : (hexL x).length = 2 * x.length := by
  induction x with
  | nil => rfl
  | cons c x ih => simp only [hexL, List.flatMap_cons, List.length_append, List.length_cons] at ih ⊢; rw [ih]; simp [hexOf]; omega
theorem hexL_snoc {x : List UInt8} {k : Nat} (h : k < x.length) : hexL (x.take (k + 1)) = hexL (x.take k) ++ hexOf x[k] := by
  rw [List.take_succ_eq_append_getElem h]; simp only [hexL, List.flatMap_append, List.flatMap_cons, List.flatMap_nil, List.append_nil]

/-- the sixteen digits, as both texts lay them -/
def digs : ByteArray := { data := #[48, 49, 50, 51, 52, 53, 54, 55, 56, 57, 97, 98, 99, 100, 101, 102] }
theorem digs_get : ∀ q, (h : q < 16) → ({ data := #[48, 49, 50, 51, 52, 53, 54, 55, 56, 57, 97, 98, 99, 100, 101, 102] } : ByteArray)[q]'h = hexDigit q := by
  intro q h
  match q, h with
  | 0, _ => rfl
  | 1, _ => rfl
  | 2, _ => rfl
  | 3, _ => rfl
  | 4, _ => rfl
  | 5, _ => rfl
  | 6, _ => rfl
  | 7, _ => rfl
  | 8, _ => rfl
  | 9, _ => rfl
  | 10, _ => rfl
  | 11, _ => rfl
  | 12, _ => rfl
  | 13, _ => rfl
  | 14, _ => rfl
  | 15, _ => rfl
  | n + 16, h => exact absurd h (by omega)
theorem hexDigit_lt (q : Nat) (h : q < 16) : (hexDigit q).toNat < 128 := by
  unfold hexDigit
  split
  · rw [UInt8.toNat_ofNat']; omega
  · rw [UInt8.toNat_ofNat']; omega
theorem encode_digit (q : Nat) (h : q < 16) : Utf8.encode ((hexDigit q).toNat : Int) = ⟨#[hexDigit q]⟩ := by
  have h1 := hexDigit_lt q h
  have hv : Utf8.valid ((hexDigit q).toNat : Int) = true := by
    unfold Utf8.valid; simp; omega
  unfold Utf8.encode
  rw [hv]
  simp only [if_true, Int.toNat_natCast]
  rw [if_pos h1, UInt8.ofNat_toNat]

theorem cat_size {s : ByteArray} {k : Nat} {a b : UInt8} (h : s.size = 2 * k) : (s ++ ((⟨#[a]⟩ : ByteArray) ++ ⟨#[b]⟩)).size = 2 * (k + 1) := by
  rw [ByteArray.size_append, ByteArray.size_append, h]; simp [ByteArray.size]; omega
theorem cat_eq {x : List UInt8} {s : ByteArray} {k q r : Nat} (h : k < x.length) (hs : s = S (hexL (x.take k))) (hq : q = x[k].toNat / 16) (hr : r = x[k].toNat % 16) :
    s ++ ((⟨#[hexDigit q]⟩ : ByteArray) ++ ⟨#[hexDigit r]⟩) = S (hexL (x.take (k + 1))) := by
  apply ByteArray.ext
  rw [hexL_snoc h, hs, hq, hr]
  simp [S, hexOf, ByteArray.data_append]

set_option maxHeartbeats 400000 in
theorem ref_hex (A : Option Addr) (c n : Nat) (x : List UInt8) (w : World) (B : Nat) (h : Sees w B A (Us x)) (l : n = x.length) (m : n ≤ 281474976710656) :
    Calls Try.prog 29 #[.slice A n c] w fun e w' => e = .returned (.string (S (hexL x))) ∧ ∃ d, w' = w.drewN d := by
  have L := Lib.hid l
  clear l
  go_enter Try.func29, Try.ntmps29
  go_wp2
  go_loopw [3, 4] (fun v i wr => ∃ (k d : Nat) (s : ByteArray), k ≤ n ∧ i = .int .i64 k ∧ v = .string s ∧ s.size = 2 * k ∧ Hid (s = S (hexL (x.take k))) ∧ wr = w.drewN d) (fun _ i _ => n - (intOf i).toNat)
  case atStart => exact ⟨0, 0, _, Nat.zero_le _, rfl, rfl, rfl, Lib.hid rfl, rfl⟩
  case round =>
    obtain ⟨k, d, s, hk, rfl, rfl, hs, HS, rfl⟩ := hrel
    by_cases hlt : k < n
    · have hkx : k < x.length := by have := L.out; omega
      obtain ⟨b1, o1, rfl, g1⟩ := byte_at h (Below.refl B w) hkx
      obtain ⟨q, hq⟩ : ∃ q, q = x[k].toNat / 16 := ⟨_, rfl⟩
      obtain ⟨r, hr⟩ : ∃ r, r = x[k].toNat % 16 := ⟨_, rfl⟩
      have hq16 : q < 16 := by have := UInt8.toNat_lt x[k]; omega
      have hr16 : r < 16 := by omega
      have e1 : (x[k].toNat : Int) / 16 = (q : Int) := by omega
      have e2 : (x[k].toNat : Int) % 16 = (r : Int) := by omega
      have e3 := digs_get q hq16
      have e4 := digs_get r hr16
      have e5 := encode_digit q hq16
      have e6 := encode_digit r hr16
      have HQ := Lib.hid hq
      have HR := Lib.hid hr
      have hqi : (q : Int) < 16 := by omega
      have hri : (r : Int) < 16 := by omega
      clear hq hr
      go_wp2
      go_quiet (fail)
      clear e1 e2 e3 e4 e5 e6 g1
      go_wp2
      go_roundw
      case rel => exact ⟨k + 1, d + nq, _, by omega, by go_num, rfl, cat_size hs, Lib.hid (cat_eq hkx HS.out HQ.out HR.out), rfl⟩
      case measure => simp [intOf]; omega
    · have hf : s = S (hexL x) := by rw [HS.out, List.take_of_length_le (by have := L.out; omega)]
      have HF := Lib.hid hf
      clear hf hs
      go_wp2
      go_ret
      exact ⟨by rw [← HF.out]; rfl, d, rfl⟩

theorem ref_hex_b (A : Option Addr) (c : Nat) (x : List UInt8) (w : World) (h : Sees w w.heap.size A (Us x)) (m : x.length ≤ 281474976710656) :
    Calls Try.prog 29 #[.slice A x.length c] w fun e w' => e = .returned (.string (S (hexL x))) ∧ Below w.heap.size w w' :=
  (ref_hex A c _ x w _ h rfl m).mono fun _ _ ⟨he, d, hw⟩ => ⟨he, by rw [hw]; exact below_drewN _ _ _⟩

theorem ref_same_b (A1 A2 : Option Addr) (c1 c2 : Nat) (x y : List UInt8) (w : World) (h1 : Sees w w.heap.size A1 (Us x)) (h2 : Sees w w.heap.size A2 (Us y)) (m1 : x.length ≤ maxLen) :
    Calls Try.prog 24 #[.slice A1 x.length c1, .slice A2 y.length c2] w fun e w' => e = .returned (.bool (sameB x y)) ∧ Below w.heap.size w w' :=
  (ref_same A1 A2 c1 c2 _ _ x y w _ h1 h2 rfl rfl m1).mono fun _ _ ⟨he, d, hw⟩ => ⟨he, by rw [hw]; exact below_drewN _ _ _⟩
theorem ref_same_yes (A1 A2 : Option Addr) (c1 c2 : Nat) (x : List UInt8) (w : World) (h1 : Sees w w.heap.size A1 (Us x)) (h2 : Sees w w.heap.size A2 (Us x)) (m1 : x.length ≤ maxLen) :
    Calls Try.prog 24 #[.slice A1 x.length c1, .slice A2 x.length c2] w fun e w' => e = .returned (.bool true) ∧ Below w.heap.size w w' := by
  have h := ref_same_b A1 A2 c1 c2 x x w h1 h2 m1
  rw [sameB_true rfl] at h
  exact h

end Go.Proofs.Ytddobbigpoplpaa
