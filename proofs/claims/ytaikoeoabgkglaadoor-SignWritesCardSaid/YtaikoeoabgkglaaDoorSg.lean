/-
  What is proved here: what the functions of package sign answer: four, digestNumber, challenge, inRange, numbersOf, signedPower, Sign; for all numbers and all bytes, where the digest's tables lie in memory.
-/
import Derived.Test.YtaikoeoabgkglaaDoorCn
import Derived.Test.YtaikoeoabgkglaaDoorRv
import Derived.Test.YtaikoeoabgkglaaDoorSml
import Derived.Test.YtaikoeoabgkglaaDoorN7
import Derived.Test.YtaikoeoabgkglaaDoorGp
namespace Go.Proofs.YtaikoeoabgkglaaDoor
open Go.RowKit
set_option linter.unusedVariables false

theorem sg_four {n : Int} {w : World} (h0 : 0 ≤ n) (h1 : n < 4294967296) : Calls Tryd.prog 37 #[.int .i64 n] w (GivesI w 4 (four n.toNat)) := by
  obtain ⟨k, rfl⟩ := Int.eq_ofNat_of_zero_le h0
  have hk : k < 4294967296 := by omega
  have H := Lib.hid hk
  rw [Int.toNat_natCast]
  clear h0 h1 hk
  go_enter Tryd.func37, Tryd.ntmps37
  go_wp2_with fail
  refine (oct4 H.out).mono ?_
  intro e w1 hm
  obtain ⟨A1, c1, rfl, h1, h2⟩ := hm
  rw [show (octL k 4).length = 4 from octL_length k 4]
  have h3 := SeesP.iff_sees.2 h1
  have HR := Lib.hid (show InB w1 A1 4 c1 (four k) ∧ _ from ⟨⟨four_len k, by decide, fun e => absurd e (some_of (l := four k) h3 (by rw [four_len]; decide)), h3⟩, h2⟩)
  clear h1 h2 h3
  go_wp2_with fail
  go_ret
  exact ⟨A1, c1, rfl, HR.out.1, HR.out.2⟩

/-- two parts in a row of slices -/
theorem partsP2 {W : World} {A B : Option Addr} {x y : List UInt8} {a b ca cb : Nat} {t : TypeId} {fr : Nat × Nat} (hx : InB W A a ca x) (hy : InB W B b cb y) :
    PartsP (W.alloc (.cells #[.slice A a ca, .slice B b cb] t fr)) W.heap.size [(A, ca, x), (B, cb, y)] := by
  obtain ⟨rfl, _, n1, s1⟩ := hx
  obtain ⟨rfl, _, n2, s2⟩ := hy
  refine ⟨by simp, fun k hk => ?_⟩
  match k, hk with
  | 0, _ => exact ⟨by rw [cell_of_row _ W.heap.size 0 _ t fr (heap_alloc_new W _)]; rfl, n1, s1.ony (below_al W _)⟩
  | 1, _ => exact ⟨by rw [cell_of_row _ W.heap.size 1 _ t fr (heap_alloc_new W _)]; rfl, n2, s2.ony (below_al W _)⟩
  | k + 2, h => exact absurd h (by simp)
theorem concat2 {W : World} {A B : Option Addr} {x y : List UInt8} {a b L ca cb : Nat} {t : TypeId} {fr : Nat × Nat} (hx : InB W A a ca x) (hy : InB W B b cb y) (hL : a + b = L) (hl : L ≤ 140737488351500) :
    Calls Tryd.prog 41 #[.slice (some ⟨W.heap.size, 0, none⟩) 2 2] (W.alloc (.cells #[.slice A a ca, .slice B b cb] t fr)) (MkN W L (x ++ y)) := by
  have e1 : lenP [(A, ca, x), (B, cb, y)] = L := by simp [lenP, hx.1, hy.1, hL]
  have e2 : flatP [(A, ca, x), (B, cb, y)] = x ++ y := by simp [flatP]
  have h := concat_ok (c := 2) (n := 2) rfl (by decide) (partsP2 (t := t) (fr := fr) hx hy) (by rw [e1]; exact hl)
  rw [e1, e2] at h
  exact h.mono fun _ _ h => h.al

/-- the number that the digest of a number and a message begins with -/
def dgN (n : Nat) (x : List UInt8) : Nat := numL ((sumL (four n ++ x)).take 7)
def dgZ (n : Int) (x : List UInt8) : Int := ((dgN n.toNat x : Nat) : Int)
theorem take7_sum (x : List UInt8) : ((sumL x).take 7).length = 7 := by rw [List.length_take, sumL_len]; rfl
theorem dgZ_bd (n : Int) (x : List UInt8) : 0 ≤ dgZ n x ∧ dgZ n x < 72057594037927936 := by
  have := num7_lt (take7_sum (four n.toNat ++ x))
  unfold dgZ dgN
  omega
def GvZ (w : World) (z : Int) (e : Ending) (w' : World) : Prop := e = .returned (.int .i64 z) ∧ Below w.heap.size w w'
set_option maxHeartbeats 400000 in
theorem digest_number {n : Int} {x : List UInt8} {A : Option Addr} {a c : Nat} {w : World} (h0 : 0 ≤ n) (h1 : n < 4294967296) (hx : InB w A a c x) (ht : TabA w) :
    Calls Tryd.prog 21 #[.int .i64 n, .slice A a c] w (GvZ w (dgZ n x)) := by
  obtain ⟨m, hm⟩ : ∃ m, numL ((sumL (four n.toNat ++ x)).take 7) = m := ⟨_, rfl⟩
  have HZ := Lib.hid (show dgZ n x = (m : Int) from by unfold dgZ dgN; rw [hm])
  obtain ⟨L, hL⟩ : ∃ L, 4 + a = L := ⟨_, rfl⟩
  have H := Lib.hid (show _ ∧ _ ∧ _ ∧ _ from ⟨hx, ht, hm, hL⟩)
  have HN := Lib.hid (show 0 ≤ n ∧ n < 4294967296 from ⟨h0, h1⟩)
  have hLb : L ≤ 140737488351500 := by have := hx.2.1; omega
  have HLL := Lib.hid (show (four n.toNat ++ x).length = L from by rw [List.length_append, four_len, hx.1, hL])
  clear hx ht hm hL h0 h1
  go_enter Tryd.func21, Tryd.ntmps21
  go_wp2_with (first
    | (go_at_call 37; ((with_reducible refine (sg_four HN.out.1 HN.out.2).mono ?_); rintro e w1 ⟨A1, c1, rfl, i1, b1⟩); have H1 := Lib.hid (show _ ∧ _ from ⟨i1, b1⟩); clear i1 b1)
    | (go_at_call 41; ((with_reducible refine (concat2 H1.out.1 (H.out.1.on H1.out.2) H.out.2.2.2 hLb).mono ?_); rintro e w2 ⟨A2, c2, rfl, l2, n2, s2, b2⟩); have H2 := Lib.hid (show _ ∧ _ from ⟨s2, below_on H1.out.2 b2⟩); clear l2 n2 s2 b2)
    | (go_at_call 40; ((with_reducible refine (prog_sumN HLL.out hLb H2.out.1 (H.out.2.1.below H2.out.2)).mono ?_); rintro e w3 ⟨A3, c3, rfl, l3, n3, s3, b3⟩); have H3 := Lib.hid (show _ ∧ _ from ⟨s3, below_on H2.out.2 b3⟩); clear n3 s3 b3)
    | (go_at_call 38; ((with_reducible refine (prog_num7 (take7_sum _) H.out.2.2.1 (H3.out.1.first 7)).mono ?_); rintro e w4 ⟨rfl, rfl⟩)))
  go_ret
  rw [HZ.out]
  exact ⟨rfl, H3.out.2⟩
/-- the challenge -/
def chZ (r : Int) (x : List UInt8) : Int := dgZ r x % 1073741789
theorem chZ_bd (r : Int) (x : List UInt8) : 0 ≤ chZ r x ∧ chZ r x < 1073741789 := by unfold chZ; omega
theorem sg_challenge {r : Int} {x : List UInt8} {A : Option Addr} {a c : Nat} {w : World} (h0 : 0 ≤ r) (h1 : r < 4294967296) (hx : InB w A a c x) (ht : TabA w) :
    Calls Tryd.prog 23 #[.int .i64 r, .slice A a c] w (GvZ w (chZ r x)) := by
  have hd := dgZ_bd r x
  have HC := Lib.hid (show chZ r x = dgZ r x % 1073741789 from rfl)
  have H := Lib.hid (show _ ∧ _ ∧ _ ∧ _ from ⟨hx, ht, h0, h1⟩)
  obtain ⟨z, hz⟩ : ∃ z, z = dgZ r x := ⟨_, rfl⟩
  rw [← hz] at hd HC
  have HZ := Lib.hid hz.symm
  obtain ⟨hd1, hd2⟩ := hd
  clear hx ht h0 h1 hz
  go_enter Tryd.func23, Tryd.ntmps23
  go_wp2_with (go_at_call 21; ((with_reducible refine (digest_number H.out.2.2.1 H.out.2.2.2 H.out.1 H.out.2.1).mono ?_); rintro e w1 ⟨rfl, b1⟩); rw [HZ.out]; have H1 := Lib.hid b1; clear b1)
  go_ret
  exact ⟨by rw [HC.out]; rfl, H1.out⟩

/-! ### the numbers of a signature -/
def smB (n : Int) : Bool := decide (0 ≤ n) && decide (n < 1073741789)
theorem smB_yes {x : Int} (h : smB x = true) : 0 ≤ x ∧ x < 1073741789 := by simpa [smB] using h
theorem smB_mk {x : Int} (a : 0 ≤ x) (b : x < 1073741789) : smB x = true := by simp [smB, a, b]
theorem smB_no {x : Int} (h : smB x = false) : x < 0 ∨ 1073741789 ≤ x := by
  rcases Int.lt_or_le x 0 with h1 | h1
  · exact .inl h1
  · right
    rcases Int.lt_or_le x 1073741789 with h2 | h2
    · rw [smB_mk h1 h2] at h; cases h
    · exact h2
def sgV (e s : Int) : Value := .agg #[.int .i64 e, .int .i64 s]
theorem info_n2 : (Tryd.prog.info? 50).map (·.zero) = some (some (.agg [.int .i64 0, .int .i64 0].toArray)) := by kernel_rfl
theorem size_n2 : (Tryd.prog.info? 50).map (·.size) = some 2 := by kernel_rfl
theorem info_sg : (Tryd.prog.info? 24).map (·.zero) = some (some (.agg [.int .i64 0, .int .i64 0].toArray)) := by kernel_rfl
theorem size_sg : (Tryd.prog.info? 24).map (·.size) = some 2 := by kernel_rfl
theorem one2 (e s : Int) : ∀ u ∈ [Value.int .i64 e, Value.int .i64 s], u.oneCell' = true := by simp; exact ⟨rfl, rfl⟩
end Go.Proofs.YtaikoeoabgkglaaDoor
