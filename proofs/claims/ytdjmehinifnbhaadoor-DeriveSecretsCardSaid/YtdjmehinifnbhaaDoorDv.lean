/-
  What is proved here: what the program's digested, counted, drawn and Key answer, for bytes that lie in memory, where the digest's tables lie there too.
-/
import Derived.Test.YtdjmehinifnbhaaDoorOc
import Derived.Test.YtdjmehinifnbhaaDoorNum
import Derived.Test.YtdjmehinifnbhaaDoorJn
import Derived.Test.YtdjmehinifnbhaaDoorTa4
namespace Go.Proofs.YtdjmehinifnbhaaDoor
open Go.RowKit
set_option linter.unusedVariables false

theorem sumL_len (x : List UInt8) : (sumL x).length = 32 := by rw [sumL, outB_length, stW_length]
def four (n : Nat) : List UInt8 := octL n 4
theorem four_len (n : Nat) : (four n).length = 4 := octL_length n 4
def pieceL (s : List UInt8) (i : Nat) : List UInt8 := sumL (s ++ ([1] ++ four i))
/-- the first k pieces -/
def streamL (s : List UInt8) : Nat → List UInt8
  | 0 => []
  | k + 1 => streamL s k ++ pieceL s k
theorem streamL_len (s : List UInt8) : ∀ k, (streamL s k).length = 32 * k
  | 0 => rfl
  | k + 1 => by rw [streamL, List.length_append, streamL_len s k, pieceL, sumL_len]; omega
def drawL (s : List UInt8) (n : Nat) : List UInt8 := (streamL s ((n + 31) / 32)).take n
theorem drawL_len (s : List UInt8) (n : Nat) : (drawL s n).length = n := by rw [drawL, List.length_take, streamL_len]; omega
theorem streamL_take (s : List UInt8) (j : Nat) : ∀ k, j ≤ k → (streamL s k).take (32 * j) = streamL s j := by
  intro k h
  induction k with
  | zero =>
    obtain rfl : j = 0 := by omega
    rfl
  | succ k ih =>
    rcases Nat.lt_or_ge k j with h1 | h1
    · obtain rfl : j = k + 1 := by omega
      exact List.take_of_length_le (by rw [streamL_len]; exact Nat.le_refl _)
    · rw [streamL, List.take_append_of_le_length (by rw [streamL_len]; omega), ih h1]
theorem drawL_take (s : List UInt8) {n m : Nat} (h : n ≤ m) : (drawL s m).take n = drawL s n := by
  unfold drawL
  have h1 : (n + 31) / 32 ≤ (m + 31) / 32 := by omega
  have h2 := streamL_take s ((n + 31) / 32) ((m + 31) / 32) h1
  have h3 : n ≤ 32 * ((n + 31) / 32) := by omega
  rw [← h2, List.take_take, List.take_take, Nat.min_eq_left h, Nat.min_eq_left h3]
def nextL (s : List UInt8) : List UInt8 := sumL (s ++ [0])
def keyL (s : List UInt8) (u : Nat) : List UInt8 := (sumL (s ++ four u)).take 16
theorem keyL_len (s : List UInt8) (u : Nat) : (keyL s u).length = 16 := by rw [keyL, List.length_take, sumL_len]; rfl

theorem own_on {a b : World} {base n : Nat} {e : TypeId} {v : Value} {xs : List Value} (h : a.ownsRow base e 1 v n xs) (hb : Below a.heap.size a b) : b.ownsRow base e 1 v n xs := by
  obtain ⟨hl, h⟩ := h
  refine ⟨hl, ?_⟩
  rcases h with h | ⟨g, cap, cur, h1, h2, h3, h4⟩
  · exact .inl h
  · exact .inr ⟨g, cap, cur, h1, h2, (hb.block g (Array.getElem?_eq_some_iff.1 h3).1).trans h3, h4⟩
theorem SeesP.ony {w w' : World} {A : Option Addr} {cs : List Value} (h : SeesP w (· < w.heap.size) A cs) (hb : Below w.heap.size w w') : SeesP w' (· < w'.heap.size) A cs := SeesP.iff_sees.2 ((SeesP.iff_sees.1 h).on hb)
theorem below_al (w : World) (o : Obj) : Below w.heap.size w (w.alloc o) := (Below.refl _ w).alloc (Nat.le_refl _) o
/-- bytes that lie in memory behind a call -/
def MkN (w : World) (n : Nat) (l : List UInt8) (e : Ending) (w' : World) : Prop := ∃ A c, e = .returned (.slice A n c) ∧ n ≤ c ∧ (A = none → c = 0) ∧ SeesP w' (· < w'.heap.size) A (Us l) ∧ Below w.heap.size w w'
theorem mkN_of {w w' : World} {l : List UInt8} {e : Ending} {n : Nat} (hn : l.length = n) (h : Mk w l e w') : MkN w n l e w' := by
  subst hn
  obtain ⟨A, c, he, h1, h2, h3, h4⟩ := h
  exact ⟨A, c, he, h1, h2, h3.imp fun b hb => hb.2, h4⟩
theorem some_of {w : World} {p : Nat → Prop} {A : Option Addr} {l : List UInt8} (h : SeesP w p A (Us l)) (h0 : 0 < l.length) : A ≠ none := by
  intro e
  subst e
  have := congrArg List.length h.none_nil
  rw [Us_length] at this
  simp at this
  subst this
  simp at h0
theorem digested_ok {w : World} {b n c : Nat} {vs : List Value} {ls : List (List UInt8)} {l : List UInt8} (hn : ls.length = n) (h2 : 2 ≤ n) (hP : Lib.PartsAt w ⟨b, 0, none⟩ vs ls) (hc : n ≤ c) (hn47 : n ≤ 1000) (hl : ls.flatten = l) (hlen : l.length ≤ 140737488351500) (ht : TabA w) :
    Calls Tryd.prog 15 #[.slice (some ⟨b, 0, none⟩) n c] w (MkN w 32 (sumL l)) := by
  have HJ := Lib.hid (bytes_join hn h2 hP hc hn47 (by rw [Lib.lens, ← List.length_flatten, hl]; exact hlen))
  have HT := Lib.hid ht
  have HL := Lib.hid (And.intro hl hlen)
  clear hP ht hn h2 hc hn47 hl hlen
  go_enter Tryd.func15, Tryd.ntmps15
  go_wp2_with fail
  refine HJ.out.mono ?_
  intro e w1 hm
  obtain ⟨A1, c1, rfl, h1, h3, h4, h5⟩ := hm
  rw [HL.out.1] at h1 h4 ⊢
  have HS := Lib.hid (digest_sum l A1 c1 w1 HL.out.2 (h4.imp fun b hb => hb.2) (HT.out.below h5).1 (HT.out.below h5).2.1)
  have HB := Lib.hid h5
  clear h1 h3 h4 h5 HJ
  go_wp2_with fail
  refine HS.out.mono ?_
  intro e w2 hm
  obtain ⟨A2, c2, rfl, h1, h3, h4, h5⟩ := mkN_of (sumL_len l) hm
  have HR := Lib.hid (show MkN w 32 (sumL l) (.returned (.slice A2 32 c2)) w2 from ⟨A2, c2, rfl, h1, h3, h4, below_on HB.out h5⟩)
  clear hm h1 h3 h4 h5 HS HB
  go_wp2_with fail
  go_ret
  exact HR.out

/-- two parts in a row of slices -/
theorem parts2 {W : World} {A B : Option Addr} {x y : List UInt8} {a b ca cb : Nat} {t : TypeId} {fr : Nat × Nat} (hx : x.length = a) (hy : y.length = b) (h1 : SeesP W (· < W.heap.size) A (Us x)) (h2 : SeesP W (· < W.heap.size) B (Us y)) :
    Lib.PartsAt (W.alloc (.cells #[.slice A a ca, .slice B b cb] t fr)) ⟨W.heap.size, 0, none⟩ [.slice A a ca, .slice B b cb] [x, y] := by
  refine ⟨rfl, fun i v hi => ?_, fun i v l hi hl => ?_⟩
  · rw [add_plain, Nat.zero_add, cell_of_row _ W.heap.size i _ t fr (heap_alloc_new W _), ← Array.getElem?_toList]
    exact hi
  · match i, hi, hl with
    | 0, hi, hl => cases hi; cases hl; exact holds_of hx (h1.ony (below_al W _))
    | 1, hi, hl => cases hi; cases hl; exact holds_of hy (h2.ony (below_al W _))
    | i + 2, hi, hl => simp at hi
theorem parts3 {W : World} {A B C : Option Addr} {x y z : List UInt8} {a b c ca cb cc : Nat} {t : TypeId} {fr : Nat × Nat} (hx : x.length = a) (hy : y.length = b) (hz : z.length = c) (h1 : SeesP W (· < W.heap.size) A (Us x)) (h2 : SeesP W (· < W.heap.size) B (Us y)) (h3 : SeesP W (· < W.heap.size) C (Us z)) :
    Lib.PartsAt (W.alloc (.cells #[.slice A a ca, .slice B b cb, .slice C c cc] t fr)) ⟨W.heap.size, 0, none⟩ [.slice A a ca, .slice B b cb, .slice C c cc] [x, y, z] := by
  refine ⟨rfl, fun i v hi => ?_, fun i v l hi hl => ?_⟩
  · rw [add_plain, Nat.zero_add, cell_of_row _ W.heap.size i _ t fr (heap_alloc_new W _), ← Array.getElem?_toList]
    exact hi
  · match i, hi, hl with
    | 0, hi, hl => cases hi; cases hl; exact holds_of hx (h1.ony (below_al W _))
    | 1, hi, hl => cases hi; cases hl; exact holds_of hy (h2.ony (below_al W _))
    | 2, hi, hl => cases hi; cases hl; exact holds_of hz (h3.ony (below_al W _))
    | i + 3, hi, hl => simp at hi
theorem MkN.al {W w' : World} {o : Obj} {n : Nat} {l : List UInt8} {e : Ending} (h : MkN (W.alloc o) n l e w') : MkN W n l e w' := by
  obtain ⟨A, c, he, h1, h2, h3, h4⟩ := h
  exact ⟨A, c, he, h1, h2, h3, below_on (below_al W o) h4⟩
theorem digested2 {W : World} {A B : Option Addr} {x y l : List UInt8} {a b ca cb : Nat} {t : TypeId} {fr : Nat × Nat} (hx : x.length = a) (hy : y.length = b) (hl : x ++ y = l) (hlen : l.length ≤ 140737488351500) (h1 : SeesP W (· < W.heap.size) A (Us x)) (h2 : SeesP W (· < W.heap.size) B (Us y)) (ht : TabA W) :
    Calls Tryd.prog 15 #[.slice (some ⟨W.heap.size, 0, none⟩) 2 2] (W.alloc (.cells #[.slice A a ca, .slice B b cb] t fr)) (MkN W 32 (sumL l)) :=
  (digested_ok (ls := [x, y]) (l := l) rfl (Nat.le_refl _) (parts2 hx hy h1 h2) (Nat.le_refl _) (by simp) (by simpa using hl) hlen (ht.below (below_al W _))).mono fun _ _ h => h.al
/-- the same, the row's address told apart -/
theorem digested2g {W : World} {g : Nat} {A B : Option Addr} {x y l : List UInt8} {a b ca cb : Nat} {t : TypeId} {fr : Nat × Nat} (hg : g = W.heap.size) (hx : x.length = a) (hy : y.length = b) (hl : x ++ y = l) (hlen : l.length ≤ 140737488351500) (h1 : SeesP W (· < W.heap.size) A (Us x)) (h2 : SeesP W (· < W.heap.size) B (Us y)) (ht : TabA W) :
    Calls Tryd.prog 15 #[.slice (some ⟨g, 0, none⟩) 2 2] (W.alloc (.cells #[.slice A a ca, .slice B b cb] t fr)) (MkN W 32 (sumL l)) := by
  subst hg
  exact digested2 hx hy hl hlen h1 h2 ht
theorem digested3 {W : World} {A B C : Option Addr} {x y z l : List UInt8} {a b c ca cb cc : Nat} {t : TypeId} {fr : Nat × Nat} (hx : x.length = a) (hy : y.length = b) (hz : z.length = c) (hl : x ++ (y ++ z) = l) (hlen : l.length ≤ 140737488351500) (h1 : SeesP W (· < W.heap.size) A (Us x)) (h2 : SeesP W (· < W.heap.size) B (Us y)) (h3 : SeesP W (· < W.heap.size) C (Us z)) (ht : TabA W) :
    Calls Tryd.prog 15 #[.slice (some ⟨W.heap.size, 0, none⟩) 3 3] (W.alloc (.cells #[.slice A a ca, .slice B b cb, .slice C c cc] t fr)) (MkN W 32 (sumL l)) :=
  (digested_ok (ls := [x, y, z]) (l := l) rfl (by simp) (parts3 hx hy hz h1 h2 h3) (Nat.le_refl _) (by simp) (by simpa using hl) hlen (ht.below (below_al W _))).mono fun _ _ h => h.al

theorem oct4 {n : Nat} {w : World} (hn : n < 4294967296) : Calls Tryd.prog 25 #[.int .i64 (n : Int), .int .i64 4] w (Gives w (octL n 4) 0) := oct_oct_yes n 4 (by decide) hn w
theorem counted_ok {n : Nat} {w : World} (hn : n < 4294967296) : Calls Tryd.prog 16 #[.int .i64 (n : Int)] w fun e w' => ∃ A c, e = .returned (.slice A 4 c) ∧ SeesP w' (· < w'.heap.size) A (Us (four n)) ∧ Below w.heap.size w w' := by
  have H := Lib.hid hn
  clear hn
  go_enter Tryd.func16, Tryd.ntmps16
  go_wp2_with fail
  refine (oct4 H.out).mono ?_
  intro e w1 hm
  obtain ⟨A1, c1, rfl, h1, h2⟩ := hm
  rw [show (octL n 4).length = 4 from octL_length n 4]
  have HR := Lib.hid (And.intro (SeesP.iff_sees.2 h1) h2)
  clear h1 h2
  go_wp2_with fail
  go_ret
  exact ⟨A1, c1, rfl, HR.out.1, HR.out.2⟩

/-- the key and the code -/
def keyB (x : List UInt8) (u : Int) : List UInt8 := if u < 0 ∨ 65535 < u then [] else keyL x u.toNat
def keyE (u : Int) : Int := if u < 0 ∨ 65535 < u then 3 else 0
def keyN (u : Int) : Nat := if u < 0 ∨ 65535 < u then 0 else 16
theorem key_bad {x : List UInt8} {u : Int} (h : u < 0 ∨ 65535 < u) : keyB x u = [] ∧ keyE u = 3 ∧ keyN u = 0 := by simp [keyB, keyE, keyN, h]
theorem key_good {x : List UInt8} {u : Nat} (h : u ≤ 65535) : keyB x u = keyL x u ∧ keyE u = 0 ∧ keyN u = 16 := by
  have : ¬ ((u : Int) < 0 ∨ 65535 < (u : Int)) := by omega
  unfold keyB keyE keyN
  rw [if_neg this, if_neg this, if_neg this]
  exact ⟨rfl, rfl, rfl⟩
/-- a call that hands back n bytes and a code -/
def GivesN (w : World) (n : Nat) (bs : List UInt8) (er : Int) (e : Ending) (w' : World) : Prop := ∃ A c, e = .returned (.tuple #[.slice A n c, .int .i64 er]) ∧ SeesP w' (· < w'.heap.size) A (Us bs) ∧ Below w.heap.size w w'
theorem givesN_nil (w : World) (r : Int) : GivesN w 0 [] r (.returned (.tuple #[.slice none 0 0, .int .i64 r])) w := ⟨none, 0, rfl, .inl rfl, Below.refl _ _⟩
theorem SeesP.first {w : World} {p : Nat → Prop} {A : Option Addr} {l : List UInt8} (h : SeesP w p A (Us l)) (k : Nat) : SeesP w p A (Us (l.take k)) := by
  rcases h with h | ⟨b, off, e, hb, hc⟩
  · have := congrArg List.length h; rw [Us_length] at this; have : l = [] := List.eq_nil_of_length_eq_zero (by simpa using this)
    subst this; exact .inl (by simp [Us])
  · refine .inr ⟨b, off, e, hb, fun j hj => ?_⟩
    rw [Us_length, List.length_take] at hj
    rw [hc j (by rw [Us_length]; omega), Us_take, List.getElem?_take, if_pos (by omega)]
set_option maxHeartbeats 400000 in
theorem key_yes {x : List UInt8} {A : Option Addr} {n u c : Nat} {w : World} (hn : x.length = n) (hu : u ≤ 65535) (hl : n ≤ 140737488351300) (hs : SeesP w (· < w.heap.size) A (Us x)) (ht : TabA w) :
    Calls Tryd.prog 7 #[.slice A n c, .int .i64 (u : Int)] w (GivesN w 16 (keyL x u) 0) := by
  have H := Lib.hid (show _ ∧ _ ∧ _ ∧ _ ∧ _ from ⟨hn, hu, hl, hs, ht⟩)
  have d1 : decide ((u : Int) < 0) = false := by simp
  have d2 : decide ((65535 : Int) < (u : Int)) = false := by simp; omega
  have HL := Lib.hid (show (x ++ four u).length ≤ 140737488351500 from by rw [List.length_append, four_len, hn]; omega)
  clear hn hu hl hs ht
  go_enter Tryd.func7, Tryd.ntmps7
  go_wp2_with (first
    | (go_at_call 16; ((with_reducible refine (counted_ok (show u < 4294967296 by have := H.out.2.1; omega)).mono ?_); rintro e w1 ⟨A1, c1, rfl, h1, h2⟩); have H1 := Lib.hid (And.intro h1 h2); clear h1 h2)
    | (go_at_call 15; ((with_reducible refine (digested2 H.out.1 (four_len u) rfl HL.out (H.out.2.2.2.1.ony H1.out.2) H1.out.1 (H.out.2.2.2.2.below H1.out.2)).mono ?_); rintro e w2 ⟨A2, c2, rfl, h1, h3, h4, h5⟩); have H2 := Lib.hid (And.intro h4 (below_on H1.out.2 h5)); clear h3 h4 h5))
  go_ret2
  exact ⟨_, _, rfl, H2.out.1.first 16, H2.out.2⟩
theorem key_all {x : List UInt8} {A : Option Addr} {n c : Nat} {u : Int} {w : World} (hn : x.length = n) (hl : n ≤ 140737488351300) (hs : SeesP w (· < w.heap.size) A (Us x)) (ht : TabA w) :
    Calls Tryd.prog 7 #[.slice A n c, .int .i64 u] w (GivesN w (keyN u) (keyB x u) (keyE u)) := by
  by_cases h : u < 0 ∨ 65535 < u
  · have HG := Lib.hid (givesN_nil w 3)
    rw [(key_bad (x := x) h).1, (key_bad (x := x) h).2.1, (key_bad (x := x) h).2.2]
    clear hn hl hs ht
    by_cases h2 : u < 0
    · have d1 : decide (u < 0) = true := by simpa using h2
      clear h
      go_enter Tryd.func7, Tryd.ntmps7
      go_wp2
      go_ret2
      exact HG.out
    · have d1 : decide (u < 0) = false := by simpa using h2
      have d2 : decide (65535 < u) = true := by simp; omega
      clear h h2
      go_enter Tryd.func7, Tryd.ntmps7
      go_wp2
      go_ret2
      exact HG.out
  · obtain ⟨k, rfl⟩ := Int.eq_ofNat_of_zero_le (show 0 ≤ u from by omega)
    have hk : k ≤ 65535 := by omega
    rw [(key_good (x := x) hk).1, (key_good (x := x) hk).2.1, (key_good (x := x) hk).2.2]
    exact key_yes hn hk hl hs ht

theorem one_len : ([1] : List UInt8).length = 1 := rfl
theorem zero_len : ([0] : List UInt8).length = 1 := rfl
theorem sees_one {wr : World} {t : TypeId} {fr : Nat × Nat} : SeesP (wr.alloc (.cells #[.int .u8 1] t fr)) (· < (wr.alloc (.cells #[.int .u8 1] t fr)).heap.size) (some ⟨wr.heap.size, 0, none⟩) (Us [1]) := sees_lit wr [1] t fr
theorem sees_zero {wr : World} {t : TypeId} {fr : Nat × Nat} : SeesP (wr.alloc (.cells #[.int .u8 0] t fr)) (· < (wr.alloc (.cells #[.int .u8 0] t fr)).heap.size) (some ⟨wr.heap.size, 0, none⟩) (Us [0]) := sees_lit wr [0] t fr
/-- what drawn's loop keeps -/
def DrR (w : World) (x : List UInt8) (N k : Nat) (v : Value) (wr : World) : Prop := wr.ownsRow w.heap.size 5 1 v N (Us (streamL x k)) ∧ N = 32 * k ∧ Below w.heap.size w wr
theorem DrR.start (w : World) (x : List UInt8) : DrR w x 0 0 (.slice none 0 0) w := ⟨by simpa [streamL, Us] using World.ownsRow_nil w w.heap.size 5 1, rfl, Below.refl _ _⟩
theorem DrR.next {w wr w2 w3 : World} {x p : List UInt8} {N k : Nat} {v v' : Value} (h : DrR w x N k v wr) (hb : Below wr.heap.size wr w2) (hp : p = pieceL x k) (ho : w3.ownsRow w.heap.size 5 1 v' (N + 32) (Us (streamL x k) ++ Us p)) (hg : w2.grownBy w3 v.ownBlock) : DrR w x (N + 32) (k + 1) v' w3 := by
  subst hp
  refine ⟨?_, by have := h.2.1; omega, ?_⟩
  · rw [streamL, Us_append]; exact ho
  · exact below_own (below_on h.2.2 hb) (own_on h.1 hb) hg
theorem own_caps {w : World} {base n : Nat} {e : TypeId} {A : Option Addr} {c : Nat} {xs : List Value} (h : w.ownsRow base e 1 (.slice A n c) n xs) : n ≤ c := by
  rcases h.2 with ⟨h1, h2⟩ | ⟨g, cap, cur, h1, _, _, h2, _⟩
  · omega
  · injection h1 with _ _ h3
    omega
theorem DrR.done {w wr : World} {x : List UInt8} {N k n : Nat} {B : Option Addr} {c : Nat} (h : DrR w x N k (.slice B N c) wr) (hk : k = (n + 31) / 32) (hn : n ≤ N) : MkN w n (drawL x n) (.returned (.slice B n n)) wr := by
  refine ⟨B, n, rfl, Nat.le_refl _, fun e => ?_, ?_, h.2.2⟩
  · subst e
    rcases h.1.2 with ⟨h1, h2⟩ | ⟨g, cap, cur, h1, _⟩
    · omega
    · cases h1
  · rw [drawL, ← hk]
    exact (SeesP.iff_sees.2 (Sees.of_own h.1)).first n
set_option maxRecDepth 40000 in
set_option maxHeartbeats 1000000 in
theorem drawn_ok {x : List UInt8} {A : Option Addr} {a n c : Nat} {w : World} (hx : x.length = a) (hn : n ≤ 1024) (hl : a ≤ 140737488351300) (hs : SeesP w (· < w.heap.size) A (Us x)) (ht : TabA w) :
    Calls Tryd.prog 20 #[.slice A a c, .int .i64 (n : Int)] w (MkN w n (drawL x n)) := by
  obtain ⟨i0, hi, hz0, hz1, hz2⟩ := info_parts info_u8
  have H := Lib.hid (show _ ∧ _ ∧ _ from ⟨hx, hs, ht⟩)
  obtain ⟨K, hK⟩ : ∃ K, K = (n + 31) / 32 := ⟨_, rfl⟩
  have HK := Lib.hid hK
  have hK1 : n ≤ 32 * K ∧ 32 * K ≤ n + 31 := by omega
  obtain ⟨hK1, hK2⟩ := hK1
  clear hx hs ht hK
  go_enter Tryd.func20, Tryd.ntmps20
  go_wp2_with fail
  go_loopw [5, 6] (fun v i wr => ∃ (k N : Nat), k ≤ K ∧ i = .int .i64 (k : Int) ∧ Hid (DrR w x N k v wr)) (fun _ i _ => K - (intOf i).toNat)
  case atStart => exact ⟨0, 0, Nat.zero_le _, rfl, Lib.hid (DrR.start w x)⟩
  case round =>
    obtain ⟨k, N, hk, rfl, HR⟩ := hrel
    obtain ⟨B, cB, rfl⟩ := own_len HR.out.1
    by_cases hlt : k < K
    · have h1 : N < n := by have := HR.out.2.1; omega
      have hk32 : k < 4294967296 := by omega
      have HL := Lib.hid (show (x ++ ([1] ++ four k)).length ≤ 140737488351500 from by rw [List.length_append, List.length_append, four_len, H.out.1]; simp; omega)
      obtain ⟨p, hp⟩ : ∃ p, p = pieceL x k := ⟨_, rfl⟩
      have HP := Lib.hid (show sumL (x ++ ([1] ++ four k)) = p ∧ p.length = 32 ∧ p = pieceL x k from ⟨by rw [hp, pieceL], by rw [hp, pieceL, sumL_len], hp⟩)
      clear hp
      have HS := Lib.hid (H.out.2.1.ony HR.out.2.2)
      go_wp2_with (first
        | (go_at_call 16; (((with_reducible refine (counted_ok hk32).mono ?_); rintro e w1 ⟨A1, c1, rfl, s1, b1⟩); have H1 := Lib.hid (show _ ∧ _ ∧ _ ∧ _ ∧ _ from ⟨s1, below_on (below_al wr _) b1, sees_one.ony b1, HS.out.ony (below_on (below_al wr _) b1), (H.out.2.2.below HR.out.2.2).below (below_on (below_al wr _) b1)⟩); clear s1 b1))
        | (go_at_call 15; (((with_reducible refine (digested3 H.out.1 one_len (four_len k) rfl HL.out H1.out.2.2.2.1 H1.out.2.2.1 H1.out.1 H1.out.2.2.2.2).mono ?_); rintro e w2 ⟨A2, c2, rfl, s2, n2, t2, b2⟩); have H2 := Lib.hid (show _ ∧ _ ∧ _ from ⟨n2, t2, below_on H1.out.2.1 b2⟩); clear s2 n2 t2 b2))
        | (at_builtin; refine app_bytes rfl (.tmp 13) (.tmp 19) 22 rfl w.heap.size 5 i0 (.int .u8 0) Tryd.underlying22 hi hz0 hz1 hz2 rfl (.slice B N cB) N (Us (streamL x k)) rfl (own_on HR.out.1 H2.out.2.2) A2 c2 p _ (by rw [HP.out.2.1]; rfl) H2.out.1 (by rw [← HP.out.1]; exact H2.out.2.1) (by unfold maxLen; rw [HP.out.2.1]; omega) (by rw [HP.out.2.1]; omega) (Nat.le_trans HR.out.2.2.size H2.out.2.2.size) ?_; rw [HP.out.2.1]; intro v3 w3 ho hg; obtain ⟨B3, c3, rfl⟩ := own_len ho; have H3 := Lib.hid (HR.out.next H2.out.2.2 HP.out.2.2 ho hg); clear ho hg))
      go_roundw
      case rel => exact ⟨k + 1, N + 32, by omega, by go_num, H3⟩
      case measure => simp [intOf]; omega
    · have h1 : ¬ N < n := by have := HR.out.2.1; omega
      obtain rfl : k = K := by omega
      have hcap : n ≤ cB := by have := own_caps HR.out.1; omega
      have HF := Lib.hid (HR.out.done HK.out (by omega))
      clear HR hk hlt
      go_wp2_with fail
      go_ret
      exact HF.out

end Go.Proofs.YtdjmehinifnbhaaDoor
