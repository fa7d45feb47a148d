/-
  What is proved here: what the program's readTag and readHeader return, for bytes that lie in memory.
-/
import Derived.Test.YtcapbojjceeapaaDoorRows
import Derived.Test.YtcapbojjceeapaaDoorWG1
import Derived.Test.YtcapbojjceeapaaDoorWG1b
import Derived.Laws.ResultCell
import Derived.Laws.Rows
namespace Go.Proofs.YtcapbojjceeapaaDoor
open Go.RowKit
set_option maxRecDepth 8000
def tagE : List UInt8 → Int
  | [] => 6
  | [a] => if a.toNat % 32 = 31 then 6 else if validB a.toNat then 0 else 4
  | a :: b :: _ => if a.toNat % 32 = 31 then (if validB ((a.toNat * 256 + b.toNat : Nat) : Int) then 0 else 4) else if validB a.toNat then 0 else 4
def tagV : List UInt8 → Nat
  | [] => 0
  | [a] => a.toNat
  | a :: b :: _ => if a.toNat % 32 = 31 then a.toNat * 256 + b.toNat else a.toNat
def numL (l : List UInt8) : Nat := l.foldl (fun n c => n * 256 + c.toNat) 0
theorem or_256 (a b : Nat) (ha : a < 4294967296) (hb : b < 256) : bits .or .i64 ((a : Int) * 256) (b : Int) = ((a * 256 + b : Nat) : Int) := by
  have h := i64_or_nat (a * 256) b (by omega) (by omega)
  have e : a * 256 ||| b = a * 256 + b := by
    have := Nat.two_pow_add_eq_or_of_lt (i := 8) (b := b) hb a
    rw [Nat.mul_comm] at this
    exact this.symm
  rw [e] at h
  simpa using h
theorem sees_byte {w : World} {p : Nat → Prop} {A : Option Addr} {x : List UInt8} {k : Nat} (h : SeesP w p A (Us x)) (hk : k < x.length) :
    ∃ b off, A = some ⟨b, off, none⟩ ∧ p b ∧ w.cell? ⟨b, off + k, none⟩ = some (.int .u8 (x[k].toNat : Int)) := by
  rcases h with h | ⟨b, off, e, hp, hc⟩
  · have : x = [] := by simpa [Us] using h
    subst this; simp at hk
  · exact ⟨b, off, e, hp, (hc k (by rw [Us_length]; exact hk)).trans (Us_get hk)⟩
def TagIs (l : List UInt8) (w : World) (e : Ending) (w' : World) : Prop := e = .returned (.tuple #[.int .i64 (if tagE l = 0 then (tagV l : Int) else 0), .int .i64 (tagE l)]) ∧ w' = w
theorem tag_bad {l : List UInt8} {x : Int} {w : World} (h : tagE l = x) (hx : x ≠ 0) : TagIs l w (.returned (.tuple #[.int .i64 0, .int .i64 x])) w := by
  unfold TagIs; rw [h, if_neg hx]; exact ⟨rfl, rfl⟩
theorem tag_good {l : List UInt8} {t : Nat} {w : World} (h : tagE l = 0) (ht : tagV l = t) : TagIs l w (.returned (.tuple #[.int .i64 (t : Int), .int .i64 0])) w := by
  unfold TagIs; rw [h, if_pos rfl, ht]; exact ⟨rfl, rfl⟩
set_option maxHeartbeats 400000 in
theorem read_tag (A : Option Addr) (c : Nat) (l : List UInt8) (w : World) (p : Nat → Prop) (hs : SeesP w p A (Us l)) (hl : l.length ≤ 140737488351232) :
    Calls Tryd.prog 100 #[.slice A l.length c] w (TagIs l w) := by
  cases l with
  | nil =>
    have hb := tag_bad (w := w) (show tagE [] = 6 from rfl) (by decide)
    have HB := Lib.hid hb
    clear hb hs
    go_enter Tryd.func100, Tryd.ntmps100
    go_wp2_with fail
    go_ret2
    exact HB.out
  | cons a r =>
    obtain ⟨b, off, rfl, hp, g0⟩ := sees_byte hs (k := 0) (by simp)
    simp only [List.getElem_cons_zero, Nat.add_zero] at g0
    have ha := UInt8.toNat_lt a
    obtain ⟨n, hn⟩ : ∃ n, n = a.toNat := ⟨_, rfl⟩
    rw [← hn] at g0 ha
    have e31 := and_31 (t := (n : Int)) (by omega) (by omega)
    have d0 : (((a :: r).length : Int) == 0) = false := by simp; omega
    have hv : ∀ (t : Nat) (q : Bool), t ≤ 65535 → validB t = q → ∀ u, Calls Tryd.prog 87 #[.int .i64 (t : Int)] u fun e w' => e = .returned (.bool q) ∧ w' = u := fun t q ht hq u => by
      have := tlv_valid t (by omega) (by omega) u
      rwa [hq] at this
    by_cases h31 : n % 32 = 31
    · have d31 : ((n : Int) % 32 == 31) = true := by simp; omega
      cases r with
      | nil =>
        have hb := tag_bad (w := w) (show tagE [a] = 6 by simp only [tagE]; rw [← hn, if_pos h31]) (by decide)
        have HB := Lib.hid hb
        clear hb hs hn hv h31
        go_enter Tryd.func100, Tryd.ntmps100
        go_wp2_with fail
        go_ret2
        exact HB.out
      | cons a2 r =>
        obtain ⟨b2, off2, e2, _, g1⟩ := sees_byte hs (k := 1) (by simp)
        injection e2 with e2
        injection e2 with e3 e4
        subst e3 e4
        simp only [List.getElem_cons_succ, List.getElem_cons_zero] at g1
        have ha2 := UInt8.toNat_lt a2
        obtain ⟨n2, hn2⟩ : ∃ n, n = a2.toNat := ⟨_, rfl⟩
        rw [← hn2] at g1 ha2
        have eor := or_256 n n2 (by omega) ha2
        obtain ⟨t, ht⟩ : ∃ t, t = n * 256 + n2 := ⟨_, rfl⟩
        rw [← ht] at eor
        have hx : tagE (a :: a2 :: r) = if validB t then 0 else 4 := by simp only [tagE]; rw [← hn, ← hn2, if_pos h31, ← ht]
        have htv : tagV (a :: a2 :: r) = t := by simp only [tagV]; rw [← hn, ← hn2, if_pos h31, ← ht]
        have d1 : (((a :: a2 :: r).length : Int) == 1) = false := by simp; omega
        cases hq : validB t
        · have hb := tag_bad (w := w) (show tagE (a :: a2 :: r) = 4 by rw [hx, hq]; rfl) (by decide)
          have HB := Lib.hid hb
          have HV := Lib.hid (hv t _ (by omega) hq)
          clear hb hs hn hn2 hv h31 hx htv ht hq
          go_enter Tryd.func100, Tryd.ntmps100
          go_wp2_with (go_at_call 87; refine (HV.out _).mono ?_; rintro e w' ⟨rfl, rfl⟩)
          go_ret2
          exact HB.out
        · have hb := tag_good (w := w) (show tagE (a :: a2 :: r) = 0 by rw [hx, hq]; rfl) htv
          have HB := Lib.hid hb
          have HV := Lib.hid (hv t _ (by omega) hq)
          clear hb hs hn hn2 hv h31 hx htv ht hq
          go_enter Tryd.func100, Tryd.ntmps100
          go_wp2_with (go_at_call 87; refine (HV.out _).mono ?_; rintro e w' ⟨rfl, rfl⟩)
          go_ret2
          exact HB.out
    · have d31 : ((n : Int) % 32 == 31) = false := by simp; omega
      have hx : tagE (a :: r) = if validB n then 0 else 4 := by cases r <;> (simp only [tagE]; rw [← hn, if_neg h31])
      have htv : tagV (a :: r) = n := by cases r <;> simp only [tagV, ← hn, if_neg h31]
      cases hq : validB n
      · have hb := tag_bad (w := w) (show tagE (a :: r) = 4 by rw [hx, hq]; rfl) (by decide)
        have HB := Lib.hid hb
        have HV := Lib.hid (hv n _ (by omega) hq)
        clear hb hs hn hv h31 hx htv hq
        go_enter Tryd.func100, Tryd.ntmps100
        go_wp2_with (go_at_call 87; refine (HV.out _).mono ?_; rintro e w' ⟨rfl, rfl⟩)
        go_ret2
        exact HB.out
      · have hb := tag_good (w := w) (show tagE (a :: r) = 0 by rw [hx, hq]; rfl) htv
        have HB := Lib.hid hb
        have HV := Lib.hid (hv n _ (by omega) hq)
        clear hb hs hn hv h31 hx htv hq
        go_enter Tryd.func100, Tryd.ntmps100
        go_wp2_with (go_at_call 87; refine (HV.out _).mono ?_; rintro e w' ⟨rfl, rfl⟩)
        go_ret2
        exact HB.out
def hdrZ (l : List UInt8) : Nat := tagN (tagV l : Nat) + 1
def hdrF (l : List UInt8) : Nat := (l.getD (hdrZ l - 1) 0).toNat
def hdrE (l : List UInt8) : Int :=
  if tagE l ≠ 0 then tagE l else if l.length < hdrZ l then 6 else if 132 < hdrF l then 5 else if hdrF l ≤ 127 then 0 else if l.length - hdrZ l < hdrF l - 128 then 6 else 0
def hdrN (l : List UInt8) : Nat := if hdrF l ≤ 127 then hdrF l else numL ((l.drop (hdrZ l)).take (hdrF l - 128))
def hdrS (l : List UInt8) : Nat := if hdrF l ≤ 127 then hdrZ l else hdrZ l + (hdrF l - 128)
def hdrV (t f n s : Int) : Value := .agg #[.int .i64 t, .int .u8 f, .int .i64 n, .int .i64 s]
def HdrIs (l : List UInt8) (w : World) (e : Ending) (w' : World) : Prop :=
  (if hdrE l = 0 then e = .returned (.tuple #[hdrV (tagV l) (hdrF l) (hdrN l) (hdrS l), .int .i64 0]) else e = .returned (.tuple #[hdrV 0 0 0 0, .int .i64 (hdrE l)])) ∧ Below w.heap.size w w'
theorem hdr_bad {l : List UInt8} {x : Int} {w w' : World} (h : hdrE l = x) (hx : x ≠ 0) (hb : Below w.heap.size w w') : HdrIs l w (.returned (.tuple #[hdrV 0 0 0 0, .int .i64 x])) w' := by
  unfold HdrIs; rw [h, if_neg hx]; exact ⟨rfl, hb⟩
theorem hdr_good {l : List UInt8} {t f n s : Nat} {w w' : World} (h : hdrE l = 0) (h1 : tagV l = t) (h2 : hdrF l = f) (h3 : hdrN l = n) (h4 : hdrS l = s) (hb : Below w.heap.size w w') :
    HdrIs l w (.returned (.tuple #[hdrV t f n s, .int .i64 0])) w' := by
  unfold HdrIs; rw [h, if_pos rfl, h1, h2, h3, h4]; exact ⟨rfl, hb⟩
theorem block_set {w : World} {b i : Nat} {cs : Array Value} {t : TypeId} (h : w.heap[b]? = some (.cells cs t (0, 0))) (u : Value) : (w.setCell ⟨b, i, none⟩ u).heap[b]? = some (.cells (cs.setIfInBounds i u) t (0, 0)) := by
  have hlt := lt_of_block h
  have h' : w.heap[b] = .cells cs t (0, 0) := by simpa [Array.getElem?_eq_getElem hlt] using h
  show (w.heap.modify b _)[b]? = _
  rw [Array.getElem?_eq_getElem (by simpa using hlt), Array.getElem_modify_self, h']
  rfl
theorem block_far {w : World} {b : Nat} {a : Addr} {o : Obj} (h : w.heap[b]? = some o) (hb : b ≠ a.block) (u : Value) : (w.setCell a u).heap[b]? = some o := by
  rw [Below.heap_setCell w a u b hb]; exact h
theorem block_alloc {w : World} {b : Nat} {o : Obj} (h : w.heap[b]? = some o) (o2 : Obj) : (w.alloc o2).heap[b]? = some o := by
  rw [Below.heap_alloc w o2 b (lt_of_block h)]; exact h
theorem block_next (w : World) (o o2 : Obj) : ((w.alloc o).alloc o2).heap[w.heap.size + 1]? = some o2 := by
  have := heap_alloc_new (w.alloc o) o2
  simpa using this
theorem ret_cell_tmp {P : Program} {fn : Func} {p u : Tmp} {ty : TypeId} (h : fn.results = #[.cell p ty, .tmp u]) (tmps : Array Value) (w : World) (g : Nat) (t : TypeId) (cs : Array Value) (fr : Nat × Nat) (d : TypeDesc)
    (hp : tmps.getD p undef = .pointer (some ⟨g, 0, none⟩)) (hg : w.heap[g]? = some (.cells cs t fr))
    (hu : P.underlying ty = some d) (hd : (match d with | .struct _ | .array _ _ => true | _ => false) = true) (hi : (P.info? ty).map (·.size) = some cs.size) :
    (results fn tmps).run P w = .ok (.tuple #[.agg cs, tmps.getD u undef]) w := by
  have hp' : tmps[p]?.getD undef = .pointer (some ⟨g, 0, none⟩) := by simpa using hp
  rw [results_cell_tmp h]
  simp [hp', asAddr, run_loadVar_row w g t ty cs fr d hg hu hd hi, Result.andThen]
theorem ret_cell_tmp2 {P : Program} {fn : Func} {p u v : Tmp} {ty : TypeId} (h : fn.results = #[.cell p ty, .tmp u, .tmp v]) (tmps : Array Value) (w : World) (g : Nat) (t : TypeId) (cs : Array Value) (fr : Nat × Nat) (d : TypeDesc)
    (hp : tmps.getD p undef = .pointer (some ⟨g, 0, none⟩)) (hg : w.heap[g]? = some (.cells cs t fr))
    (hu : P.underlying ty = some d) (hd : (match d with | .struct _ | .array _ _ => true | _ => false) = true) (hi : (P.info? ty).map (·.size) = some cs.size) :
    (results fn tmps).run P w = .ok (.tuple #[.agg cs, tmps.getD u undef, tmps.getD v undef]) w := by
  have hp' : tmps[p]?.getD undef = .pointer (some ⟨g, 0, none⟩) := by simpa using hp
  simp only [results, h]
  simp [hp', asAddr, run_loadVar_row w g t ty cs fr d hg hu hd hi, Result.andThen]
theorem info_hdr : (Tryd.prog.info? 114).map (·.size) = some 4 := by kernel_rfl
def HdrRel (w : World) (l : List UInt8) (t m z k n : Nat) (wr : World) : Prop :=
  n = numL ((l.drop (z + 1)).take k) ∧ Below w.heap.size w wr ∧
  wr.heap[w.heap.size]? = some (.cells #[.int .i64 0, .int .u8 0, .int .i64 0, .int .i64 0] 114 (0, 0)) ∧
  wr.heap[w.heap.size + 1]? = some (.cells #[.int .i64 t, .int .u8 ((128 : Int) + m), .int .i64 n, .int .i64 ((z : Int) + 1)] 114 (0, 0))
theorem HdrRel.start (w : World) (l : List UInt8) (t m z : Nat) :
    HdrRel w l t m z 0 0 ((w.alloc (.cells #[.int .i64 0, .int .u8 0, .int .i64 0, .int .i64 0] 114)).alloc (.cells #[.int .i64 t, .int .u8 ((128 : Int) + m), .int .i64 0, .int .i64 ((z : Int) + 1)] 114)) := by
  refine ⟨by simp [numL], ((Below.refl _ _).alloc (Nat.le_refl _) _).alloc (by simp) _, block_alloc (heap_alloc_new w _) _, block_next w _ _⟩
theorem numL_snoc {l : List UInt8} {k : Nat} (h : k < l.length) : numL (l.take (k + 1)) = numL (l.take k) * 256 + l[k].toNat := by
  rw [List.take_succ_eq_append_getElem h]
  unfold numL
  rw [List.foldl_append]
  rfl
theorem foldl_lt : ∀ (l : List UInt8) (n k : Nat), n < 256 ^ k → l.foldl (fun n c => n * 256 + c.toNat) n < 256 ^ (k + l.length)
  | [], _, _, h => h
  | a :: r, n, k, h => by
    have h2 := UInt8.toNat_lt a
    have := foldl_lt r (n * 256 + a.toNat) (k + 1) (by rw [Nat.pow_succ]; omega)
    rw [List.length_cons, show k + (r.length + 1) = k + 1 + r.length by omega]
    exact this
theorem numL_lt (l : List UInt8) : numL l < 256 ^ l.length := by
  have := foldl_lt l 0 0 (by decide)
  rw [Nat.zero_add] at this
  exact this
theorem HdrRel.step {w wr : World} {l : List UInt8} {t m z k n y : Nat} (h : HdrRel w l t m z k n wr) (hk : z + 1 + k < l.length) (hy : y = (l[z + 1 + k]'hk).toNat) :
    HdrRel w l t m z (k + 1) (n * 256 + y) (wr.setCell ⟨w.heap.size + 1, 2, none⟩ (.int .i64 ((n : Int) * 256 + y))).drew := by
  obtain ⟨h1, h2, h3, h4⟩ := h
  refine ⟨?_, (h2.setCell (p := ⟨w.heap.size + 1, 2, none⟩) (by simp) _).drew, block_far (a := ⟨w.heap.size + 1, 2, none⟩) h3 (by simp) _, ?_⟩
  · rw [numL_snoc (by rw [List.length_drop]; omega), ← h1, hy]
    simp [List.getElem_drop]
  · have := block_set (i := 2) (w := wr) (b := w.heap.size + 1) h4 (.int .i64 ((n : Int) * 256 + y))
    have e : (((n * 256 + y : Nat)) : Int) = (n : Int) * 256 + y := by omega
    rw [e]
    exact this
set_option maxHeartbeats 1000000 in
set_option maxRecDepth 4000 in
theorem read_header (A : Option Addr) (c : Nat) (l : List UInt8) (w : World) (hs : SeesP w (· < w.heap.size) A (Us l)) (hl : l.length ≤ 140737488351232) :
    Calls Tryd.prog 90 #[.slice A l.length c] w (HdrIs l w) := by
  obtain ⟨x, hx⟩ : ∃ x, x = tagE l := ⟨_, rfl⟩
  have hT : ∀ u, Below w.heap.size w u → Calls Tryd.prog 100 #[.slice A l.length c] u (TagIs l u) := fun u hu => read_tag A c l u _ (hs.keep fun _ hq => hu.cell hq) hl
  unfold TagIs at hT
  rw [← hx] at hT
  by_cases h1 : x = 0
  · subst h1
    rw [if_pos rfl] at hT
    obtain ⟨t, ht⟩ : ∃ t, t = tagV l := ⟨_, rfl⟩
    rw [← ht] at hT
    obtain ⟨z, hz⟩ : ∃ z, z = tagN (t : Int) := ⟨_, rfl⟩
    have hzz : hdrZ l = z + 1 := by unfold hdrZ; rw [← ht, ← hz]
    have hz2 : z ≤ 2 := by rw [hz]; exact tagN_le t
    have hG : ∀ u, Calls Tryd.prog 69 #[.int .i64 (t : Int)] u fun e w' => e = .returned (.int .i64 (z : Int)) ∧ w' = u := fun u => tag_sizeN t z hz u
    have HT := Lib.hid hT
    have HG := Lib.hid hG
    clear hT hG hz
    by_cases h2 : l.length < z + 1
    · have d2 : decide ((l.length : Int) < (z : Int) + 1) = true := by simp; omega
      have hd : ∀ w', Below w.heap.size w w' → HdrIs l w (.returned (.tuple #[hdrV 0 0 0 0, .int .i64 6])) w' := fun w' hw => hdr_bad (by unfold hdrE; rw [if_neg (by omega), hzz, if_pos h2]) (by decide) hw
      have HD := Lib.hid hd
      clear hd hs h2 hx ht hzz
      go_enter Tryd.func90, Tryd.ntmps90
      go_wp2_with (first | (go_at_call 100; refine (HT.out _ ((Below.refl _ _).alloc (Nat.le_refl _) _)).mono ?_; rintro e w' ⟨rfl, rfl⟩) | (go_at_call 69; refine (HG.out _).mono ?_; rintro e w' ⟨rfl, rfl⟩))
      first | (refine bodyPost_ret (ret_cell_tmp rfl _ _ _ _ _ _ _ rfl (heap_alloc_new _ _) Tryd.underlying114 rfl info_hdr) rfl ?_) | (refine bodyPost_ret (ret_cell_tmp rfl _ _ _ _ _ _ _ rfl (block_alloc (heap_alloc_new _ _) _) Tryd.underlying114 rfl info_hdr) rfl ?_)
      refine HD.out _ ?_
      repeat' (first | exact Below.refl _ _ | refine Below.setCell ?_ ?_ _ | refine Below.alloc ?_ ?_ _ | (simp; done))
    · have d2 : decide (l.length < z + 1) = false := by simpa using h2
      have d2' : decide ((l.length : Int) < (z : Int) + 1) = false := by simp; omega
      have hlz : z < l.length := by omega
      obtain ⟨b, off, rfl, hp, g0⟩ := sees_byte hs (k := z) hlz
      obtain ⟨f, hf⟩ : ∃ f, f = (l[z]'hlz).toNat := ⟨_, rfl⟩
      have hff : hdrF l = f := by unfold hdrF; rw [hzz, hf]; simp [List.getD, List.getElem?_eq_getElem hlz]
      have hf8 : f < 256 := by rw [hf]; exact UInt8.toNat_lt _
      rw [← hf] at g0
      by_cases h3 : 132 < f
      · have d3 : decide ((132 : Int) < (f : Int)) = true := by simp; omega
        have hd : ∀ w', Below w.heap.size w w' → HdrIs l w (.returned (.tuple #[hdrV 0 0 0 0, .int .i64 5])) w' := fun w' hw => hdr_bad (by unfold hdrE; rw [if_neg (by omega), hzz, if_neg h2, hff, if_pos h3]) (by decide) hw
        have HD := Lib.hid hd
        clear hd hs hf hff h2 h3 hx ht hzz
        go_enter Tryd.func90, Tryd.ntmps90
        go_wp2_with (first | (go_at_call 100; refine (HT.out _ ((Below.refl _ _).alloc (Nat.le_refl _) _)).mono ?_; rintro e w' ⟨rfl, rfl⟩) | (go_at_call 69; refine (HG.out _).mono ?_; rintro e w' ⟨rfl, rfl⟩))
        first | (refine bodyPost_ret (ret_cell_tmp rfl _ _ _ _ _ _ _ rfl (heap_alloc_new _ _) Tryd.underlying114 rfl info_hdr) rfl ?_) | (refine bodyPost_ret (ret_cell_tmp rfl _ _ _ _ _ _ _ rfl (block_alloc (heap_alloc_new _ _) _) Tryd.underlying114 rfl info_hdr) rfl ?_)
        refine HD.out _ ?_
        repeat' (first | exact Below.refl _ _ | refine Below.setCell ?_ ?_ _ | refine Below.alloc ?_ ?_ _ | (simp; done))
      · have d3 : decide ((132 : Int) < (f : Int)) = false := by simp; omega
        by_cases h4 : f ≤ 127
        · have d4 : decide ((f : Int) ≤ 127) = true := by simp; omega
          have hd : ∀ w', Below w.heap.size w w' → HdrIs l w (.returned (.tuple #[hdrV t f f ((z : Int) + 1), .int .i64 0])) w' := fun w' hw => by
            have e2 : ((z + 1 : Nat) : Int) = (z : Int) + 1 := by omega
            rw [← e2]
            exact hdr_good (by unfold hdrE; rw [if_neg (by omega), hzz, if_neg h2, hff, if_neg h3, if_pos h4]) ht.symm hff (by unfold hdrN; rw [hff, if_pos h4]) (by unfold hdrS; rw [hff, if_pos h4, hzz]) hw
          have HD := Lib.hid hd
          clear hd hs hf hff h2 h3 h4 hx ht hzz
          go_enter Tryd.func90, Tryd.ntmps90
          go_wp2_with (first | (go_at_call 100; refine (HT.out _ ((Below.refl _ _).alloc (Nat.le_refl _) _)).mono ?_; rintro e w' ⟨rfl, rfl⟩) | (go_at_call 69; refine (HG.out _).mono ?_; rintro e w' ⟨rfl, rfl⟩))
          first | (refine bodyPost_ret (ret_cell_tmp rfl _ _ _ _ _ _ _ rfl (block_alloc (heap_alloc_new _ _) _) Tryd.underlying114 rfl info_hdr) rfl ?_)
          refine HD.out _ ?_
          repeat' (first | exact Below.refl _ _ | refine Below.setCell ?_ ?_ _ | refine Below.alloc ?_ ?_ _ | (simp; done))
        · have d4 : decide ((f : Int) ≤ 127) = false := by simp; omega
          by_cases h5 : l.length - (z + 1) < f - 128
          · have hE : hdrE l = 6 := by unfold hdrE; rw [if_neg (by omega), hzz, if_neg h2, hff, if_neg h3, if_neg h4, if_pos h5]
            obtain ⟨m, rfl⟩ : ∃ m, f = 128 + m := ⟨f - 128, by omega⟩
            have g0 : w.cell? ⟨b, off + z, none⟩ = some (.int .u8 ((128 : Int) + (m : Int))) := by rw [g0]; simp
            have d3 : decide ((132 : Int) < (128 : Int) + (m : Int)) = false := by simp; omega
            have d4 : decide ((128 : Int) + (m : Int) ≤ 127) = false := by simp; omega
            have d5 : decide ((l.length : Int) - ((z : Int) + 1) < (128 : Int) + (m : Int) - 128) = true := by simp; omega
            have hm : m ≤ 4 := by omega
            clear h5
            have hd : ∀ w', Below w.heap.size w w' → HdrIs l w (.returned (.tuple #[hdrV 0 0 0 0, .int .i64 6])) w' := fun w' hw => hdr_bad (by exact hE) (by decide) hw
            have HD := Lib.hid hd
            clear hd hs hf hff h2 h3 h4 hx ht hzz hE hf8
            go_enter Tryd.func90, Tryd.ntmps90
            go_wp2_with (first | (go_at_call 100; refine (HT.out _ ((Below.refl _ _).alloc (Nat.le_refl _) _)).mono ?_; rintro e w' ⟨rfl, rfl⟩) | (go_at_call 69; refine (HG.out _).mono ?_; rintro e w' ⟨rfl, rfl⟩))
            first | (refine bodyPost_ret (ret_cell_tmp rfl _ _ _ _ _ _ _ rfl (heap_alloc_new _ _) Tryd.underlying114 rfl info_hdr) rfl ?_) | (refine bodyPost_ret (ret_cell_tmp rfl _ _ _ _ _ _ _ rfl (block_alloc (heap_alloc_new _ _) _) Tryd.underlying114 rfl info_hdr) rfl ?_)
            refine HD.out _ ?_
            repeat' (first | exact Below.refl _ _ | refine Below.setCell ?_ ?_ _ | refine Below.alloc ?_ ?_ _ | (simp; done))
          · obtain ⟨m, rfl⟩ : ∃ m, f = 128 + m := ⟨f - 128, by omega⟩
            have d5 : decide ((l.length : Int) - ((z : Int) + 1) < (m : Int)) = false := by simp; omega
            have HS := Lib.hid hs
            have hm : m ≤ 4 := by omega
            have g0 : w.cell? ⟨b, off + z, none⟩ = some (.int .u8 ((128 : Int) + (m : Int))) := by rw [g0]; simp
            have d3 : decide ((132 : Int) < (128 : Int) + (m : Int)) = false := by simp; omega
            have d4 : decide ((128 : Int) + (m : Int) ≤ 127) = false := by simp; omega
            have hlz2 : z + 1 + m ≤ l.length := by omega
            have HF := Lib.hid (show tagE l = 0 ∧ tagV l = t ∧ hdrZ l = z + 1 ∧ hdrF l = 128 + m from ⟨hx.symm, ht.symm, hzz, hff⟩)
            clear h2 h3 h4 h5 hs hf hf8 hff hx ht hzz
            go_enter Tryd.func90, Tryd.ntmps90
            go_wp2_with (first | (go_at_call 100; refine (HT.out _ ((Below.refl _ _).alloc (Nat.le_refl _) _)).mono ?_; rintro e w' ⟨rfl, rfl⟩) | (go_at_call 69; refine (HG.out _).mono ?_; rintro e w' ⟨rfl, rfl⟩))
            go_loopw [63] (fun i wr => ∃ k n : Nat, k ≤ m ∧ i = .int .i64 k ∧ n < 4294967296 ∧ Hid (HdrRel w l t m z k n wr)) (fun i _ => m - (intOf i).toNat)
            case atStart => exact ⟨0, 0, Nat.zero_le _, rfl, by decide, Lib.hid (HdrRel.start w l t m z)⟩
            case round =>
              obtain ⟨k, n, hk, rfl, hn, HR⟩ := hrel
              have hb := HR.out.2.1
              have b1 := HR.out.2.2.2
              have c2 := cell_of_row wr (w.heap.size + 1) 2 _ _ _ b1
              have c3 := cell_of_row wr (w.heap.size + 1) 3 _ _ _ b1
              have f2 := frozen_of_row wr (w.heap.size + 1) 2 _ _ b1
              simp only [List.getElem?_toArray, List.getElem?_cons_succ, List.getElem?_cons_zero] at c2 c3
              by_cases hlt : k < m
              · have hk2 : z + 1 + k < l.length := by omega
                obtain ⟨b2, off2, e2, _, g1⟩ := sees_byte HS.out (k := z + 1 + k) hk2
                injection e2 with e2
                injection e2 with e3 e4
                subst e3 e4
                obtain ⟨y, hy⟩ : ∃ y, y = (l[z + 1 + k]'hk2).toNat := ⟨_, rfl⟩
                have hy8 : y < 256 := by rw [hy]; exact UInt8.toNat_lt _
                rw [← hy] at g1
                have g1 := (hb.cell (p := ⟨b, off + (z + 1 + k), none⟩) hp).trans g1
                have eor := or_256 n y hn hy8
                have hn2 : n * 256 + y < 4294967296 := by
                  have := numL_lt ((l.drop (z + 1)).take (k + 1))
                  have e := (HR.out.step hk2 hy).1
                  rw [← e] at this
                  refine Nat.lt_of_lt_of_le this ?_
                  refine Nat.le_trans (Nat.pow_le_pow_right (by decide) (show _ ≤ 4 from ?_)) (by decide)
                  rw [List.length_take]; omega
                have HY := Lib.hid hy
                clear hy b1 hb
                go_wp2_with fail
                go_region
                all_goals
                  go_wp2_with fail
                  go_roundw
                  case rel => exact ⟨k + 1, n * 256 + y, by omega, by go_num, hn2, Lib.hid (HR.out.step hk2 HY.out)⟩
                  case measure => simp [intOf]; omega
              · obtain rfl : k = m := by omega
                have c0 := cell_of_row wr (w.heap.size + 1) 0 _ _ _ b1
                have c1 := cell_of_row wr (w.heap.size + 1) 1 _ _ _ b1
                have f3 := frozen_of_row wr (w.heap.size + 1) 3 _ _ b1
                have b0 := HR.out.2.2.1
                have q0 := cell_of_row wr w.heap.size 0 _ _ _ b0
                have q1 := cell_of_row wr w.heap.size 1 _ _ _ b0
                have q2 := cell_of_row wr w.heap.size 2 _ _ _ b0
                have q3 := cell_of_row wr w.heap.size 3 _ _ _ b0
                have r0 := frozen_of_row wr w.heap.size 0 _ _ b0
                have r1 := frozen_of_row wr w.heap.size 1 _ _ b0
                have r2 := frozen_of_row wr w.heap.size 2 _ _ b0
                have r3 := frozen_of_row wr w.heap.size 3 _ _ b0
                simp only [List.getElem?_toArray, List.getElem?_cons_succ, List.getElem?_cons_zero] at c0 c1 q0 q1 q2 q3
                have hE : hdrE l = 0 := by
                  unfold hdrE
                  rw [if_neg (by rw [HF.out.1]; omega), HF.out.2.2.1, HF.out.2.2.2, if_neg (by omega), if_neg (by omega), if_neg (by omega), if_neg (by omega)]
                have hN : hdrN l = n := by
                  unfold hdrN
                  rw [HF.out.2.2.1, HF.out.2.2.2, if_neg (by omega), HR.out.1, show 128 + k - 128 = k by omega]
                have hS : hdrS l = z + 1 + k := by
                  unfold hdrS
                  rw [HF.out.2.2.1, HF.out.2.2.2, if_neg (by omega)]; omega
                have hd : ∀ w', Below w.heap.size w w' → HdrIs l w (.returned (.tuple #[.agg #[.int .i64 t, .int .u8 ((128 : Int) + k), .int .i64 n, .int .i64 ((z : Int) + 1 + (128 + k - 128))], .int .i64 0])) w' := fun w' hw => by
                  have h := hdr_good hE HF.out.2.1 HF.out.2.2.2 hN hS hw
                  have e1 : ((128 + k : Nat) : Int) = (128 : Int) + k := by omega
                  have e2 : ((z + 1 + k : Nat) : Int) = (z : Int) + 1 + (128 + k - 128) := by omega
                  rw [e1, e2] at h
                  exact h
                have HD := Lib.hid hd
                have HB := Lib.hid hb
                clear b0 b1 hb hE hN hS hd
                go_wp2_with fail
                refine bodyPost_ret (ret_cell_tmp rfl _ _ _ _ _ _ _ rfl (block_set (block_set (block_set (block_set (block_far HR.out.2.2.1 (by simp) _) _) _) _) _) Tryd.underlying114 rfl info_hdr) rfl ?_
                refine HD.out _ ?_
                repeat' (first | exact HB.out | refine Below.setCell ?_ ?_ _ | (simp; done))
  · rw [if_neg h1] at hT
    have HT := Lib.hid hT
    have d1 : (x != 0) = true := by simpa using h1
    have hd : ∀ w', Below w.heap.size w w' → HdrIs l w (.returned (.tuple #[hdrV 0 0 0 0, .int .i64 x])) w' := fun w' hw => hdr_bad (by unfold hdrE; rw [if_pos (by omega)]; exact hx.symm) h1 hw
    have HD := Lib.hid hd
    clear hd hT hs hx h1
    go_enter Tryd.func90, Tryd.ntmps90
    go_wp2_with (go_at_call 100; refine (HT.out _ ((Below.refl _ _).alloc (Nat.le_refl _) _)).mono ?_; rintro e w' ⟨rfl, rfl⟩)
    first | (refine bodyPost_ret (ret_cell_tmp rfl _ _ _ _ _ _ _ rfl (heap_alloc_new _ _) Tryd.underlying114 rfl info_hdr) rfl ?_) | (refine bodyPost_ret (ret_cell_tmp rfl _ _ _ _ _ _ _ rfl (block_alloc (heap_alloc_new _ _) _) Tryd.underlying114 rfl info_hdr) rfl ?_)
    refine HD.out _ ?_
    repeat' (first | exact Below.refl _ _ | refine Below.setCell ?_ ?_ _ | refine Below.alloc ?_ ?_ _ | (simp; done))
set_option maxRecDepth 8000
def shortB (f n : Nat) : Bool := if lb n = 0 then decide (f ≤ 127) else decide (f = 128 + lb n)
theorem hdr_shortest (t f n s : Nat) (hf : f < 256) (hn : n < 4294967296) (w : World) :
    Calls Tryd.prog 101 #[hdrV t f n s] w fun e w' => e = .returned (.bool (shortB f n)) ∧ Below w.heap.size w w' := by
  obtain ⟨y, hy⟩ : ∃ y, y = lb n := ⟨_, rfl⟩
  have hL : ∀ u, Calls Tryd.prog 70 #[.int .i64 (n : Int)] u fun e w' => e = .returned (.int .i64 (y : Int)) ∧ w' = u := fun u => by rw [hy]; exact length_bytes n (by omega) u
  have HL := Lib.hid hL
  have hy8 : y ≤ 8 := by rw [hy]; exact lb_le8 n
  have hb := (Below.refl w.heap.size w).alloc (Nat.le_refl _) (.cells #[.int .i64 t, .int .u8 f, .int .i64 n, .int .i64 s] 114)
  have HB := Lib.hid hb
  clear hb hL
  unfold hdrV
  by_cases h : y = 0
  · have e : shortB f n = decide ((f : Int) ≤ 127) := by unfold shortB; rw [← hy, if_pos h]; by_cases h2 : f ≤ 127 <;> simp [h2] <;> omega
    rw [e]
    clear hy e
    subst h
    go_enter Tryd.func101, Tryd.ntmps101
    go_wp2_with (go_at_call 70; refine (HL.out _).mono ?_; rintro e w' ⟨rfl, rfl⟩)
    go_ret
    exact ⟨rfl, HB.out⟩
  · have e : shortB f n = ((f : Int) == (128 : Int) + y) := by unfold shortB; rw [← hy, if_neg h]; by_cases h2 : f = 128 + y <;> simp [h2] <;> omega
    have d : ((y : Int) == 0) = false := by simp; omega
    have d' : (y == 0) = false := by simp; omega
    rw [e]
    clear hy e h
    go_enter Tryd.func101, Tryd.ntmps101
    go_wp2_with (go_at_call 70; refine (HL.out _).mono ?_; rintro e w' ⟨rfl, rfl⟩)
    go_ret
    exact ⟨rfl, HB.out⟩
def Rd (w : World) (R : Nat) (st : Bool) (c : Nat) : Prop := w.heap[R]? = some (.cells #[.bool st, .int .i64 (c : Int)] 81 (0, 0))
def admE (st : Bool) (t f n : Nat) (d : Int) (c : Nat) : Int :=
  if (f = 128 ∧ consB t = false) ∨ (st = true ∧ shortB f n = false) then 5 else if 8 < d then 7 else if 256 < c + 1 then 2 else 0
def AdmIs (w : World) (R : Nat) (st : Bool) (x : Int) (c : Nat) (e : Ending) (w' : World) : Prop :=
  e = .returned (.int .i64 x) ∧ w.grownBy w' (some R) ∧ ∃ c', Rd w' R st c' ∧ (x = 0 → c' = c + 1)
theorem Rd.grown {w w' : World} {R : Nat} {st : Bool} {c : Nat} (h : Rd w R st c) (hg : Below w.heap.size w w') : Rd w' R st c :=
  (hg.block R (lt_of_block h)).trans h
theorem adm_bad {w w' : World} {R : Nat} {st : Bool} {c : Nat} {x : Int} (hx : x ≠ 0) (h : Rd w R st c) (hb : Below w.heap.size w w') : AdmIs w R st x c (.returned (.int .i64 x)) w' :=
  ⟨rfl, grown_below hb, c, h.grown hb, fun e => absurd e hx⟩
theorem Rd.count {w : World} {R : Nat} {st : Bool} {c : Nat} (h : Rd w R st c) : Rd (w.setCell ⟨R, 1, none⟩ (.int .i64 ((c : Int) + 1))) R st (c + 1) := by
  have := block_set (i := 1) h (.int .i64 ((c : Int) + 1))
  unfold Rd
  rw [this]
  rfl
theorem adm_count {w w' : World} {R : Nat} {st : Bool} {c : Nat} {x : Int} (h : Rd w R st c) (hb : Below w.heap.size w w') : AdmIs w R st x c (.returned (.int .i64 x)) (w'.setCell ⟨R, 1, none⟩ (.int .i64 ((c : Int) + 1))) := by
  refine ⟨rfl, ?_, c + 1, (h.grown hb).count, fun _ => rfl⟩
  refine grown_trans (grown_below hb) ⟨rfl, rfl, rfl, Nat.le_of_eq (by simp), fun k _ hk => Below.heap_setCell w' _ _ k (by simpa using fun e => hk (by rw [e]))⟩
theorem adm_count2 {w : World} {R : Nat} {st : Bool} {c : Nat} {x : Int} (h : Rd w R st c) (o : Obj) : AdmIs w R st x c (.returned (.int .i64 x)) ((w.setCell ⟨R, 1, none⟩ (.int .i64 ((c : Int) + 1))).alloc o) := by
  refine ⟨rfl, ?_, c + 1, h.count.grown ((Below.refl _ _).alloc (Nat.le_refl _) o), fun _ => rfl⟩
  refine grown_trans (b := w.setCell ⟨R, 1, none⟩ (.int .i64 ((c : Int) + 1))) ⟨rfl, rfl, rfl, Nat.le_of_eq (by simp), fun k _ hk => Below.heap_setCell w _ _ k (by simpa using fun e => hk (by rw [e]))⟩ (grown_alloc _ o _)
set_option maxHeartbeats 1000000 in
theorem rd_admit (R : Nat) (st : Bool) (c : Nat) (t f n s : Nat) (d : Int) (ht : t ≤ 65535) (hf : f < 256) (hn : n < 4294967296) (hc : c ≤ 256) (w : World) (hr : Rd w R st c) :
    Calls Tryd.prog 91 #[.pointer (some ⟨R, 0, none⟩), hdrV t f n s, .int .i64 d] w (AdmIs w R st (admE st t f n d c) c) := by
  have HRD := Lib.hid hr
  have HK := Lib.hid (fun u => tlv_cons (t : Int) (by omega) (by omega) u)
  have HS := Lib.hid (fun u => hdr_shortest t f n s hf hn u)
  have hb := (Below.refl w.heap.size w).alloc (Nat.le_refl _) (.cells #[.int .i64 t, .int .u8 f, .int .i64 n, .int .i64 s] 114)
  have HB := Lib.hid hb
  have hlt := lt_of_block hr
  have q0 := cell_of_row w R 0 _ _ _ hr
  have q1 := cell_of_row w R 1 _ _ _ hr
  have f1 := frozen_of_row w R 1 _ _ hr
  simp only [List.getElem?_toArray, List.getElem?_cons_succ, List.getElem?_cons_zero] at q0 q1
  have hne : R ≠ w.heap.size := by omega
  clear hb hr
  unfold hdrV
  by_cases h1 : f = 128
  · have d1 : ((f : Int) == 128) = true := by simp; omega
    cases hk : consB t
    · have HK2 := Lib.hid (show ∀ u, Calls Tryd.prog 88 #[.int .i64 (t : Int)] u fun e w' => e = .returned (.bool false) ∧ w' = u from fun u => by have := HK.out u; rwa [hk] at this)
      have hx : admE st t f n d c = 5 := by unfold admE; rw [if_pos (.inl ⟨h1, hk⟩)]
      rw [hx]
      clear hx hk h1
      go_enter Tryd.func91, Tryd.ntmps91
      go_wp2_with (first | (go_at_call 88; refine (HK2.out _).mono ?_; rintro e w' ⟨rfl, rfl⟩))
      go_ret
      exact adm_bad (by decide) HRD.out HB.out
    · have HK2 := Lib.hid (show ∀ u, Calls Tryd.prog 88 #[.int .i64 (t : Int)] u fun e w' => e = .returned (.bool true) ∧ w' = u from fun u => by have := HK.out u; rwa [hk] at this)
      cases st
      · have hp : ¬ ((f = 128 ∧ consB t = false) ∨ (false = true ∧ shortB f n = false)) := by rw [hk]; simp
        by_cases h8 : 8 < d
        · have d8 : decide (8 < d) = true := by simpa using h8
          have hx : admE false t f n d c = 7 := by unfold admE; rw [if_neg (hp), if_pos h8]
          rw [hx]
          clear hx hk h1 hp h8
          go_enter Tryd.func91, Tryd.ntmps91
          go_wp2_with (first | (go_at_call 88; refine (HK2.out _).mono ?_; rintro e w' ⟨rfl, rfl⟩))
          go_ret
          exact adm_bad (by decide) HRD.out HB.out
        · have d8 : decide (8 < d) = false := by simpa using h8
          by_cases h9 : 256 < c + 1
          · have d9 : decide ((256 : Int) < (c : Int) + 1) = true := by simp; omega
            have hx : admE false t f n d c = 2 := by unfold admE; rw [if_neg (hp), if_neg h8, if_pos h9]
            rw [hx]
            clear hx hk h1 hp h8 h9
            go_enter Tryd.func91, Tryd.ntmps91
            go_wp2_with (first | (go_at_call 88; refine (HK2.out _).mono ?_; rintro e w' ⟨rfl, rfl⟩))
            go_ret
            exact adm_count2 HRD.out _
          · have d9 : decide ((256 : Int) < (c : Int) + 1) = false := by simp; omega
            have hx : admE false t f n d c = 0 := by unfold admE; rw [if_neg (hp), if_neg h8, if_neg h9]
            rw [hx]
            clear hx hk h1 hp h8 h9
            go_enter Tryd.func91, Tryd.ntmps91
            go_wp2_with (first | (go_at_call 88; refine (HK2.out _).mono ?_; rintro e w' ⟨rfl, rfl⟩))
            go_ret
            exact adm_count2 HRD.out _
      · cases hs : shortB f n
        · have HS2 := Lib.hid (show ∀ u, Calls Tryd.prog 101 #[hdrV t f n s] u fun e w' => e = .returned (.bool false) ∧ Below u.heap.size u w' from fun u => by have := HS.out u; rwa [hs] at this)
          unfold hdrV at HS2
          have hx : admE true t f n d c = 5 := by unfold admE; rw [if_pos (.inr ⟨rfl, hs⟩)]
          rw [hx]
          clear hx hk h1 hs
          go_enter Tryd.func91, Tryd.ntmps91
          go_wp2_with (first | (go_at_call 88; refine (HK2.out _).mono ?_; rintro e w' ⟨rfl, rfl⟩) | (go_at_call 101; refine (HS2.out _).mono ?_; rintro e w2 ⟨rfl, hb2⟩; have HB2 := Lib.hid (HB.out.trans (hb2.mono HB.out.size)); have q1 := (hb2.cell (p := ⟨R, 1, none⟩) (by simp; omega)).trans ((HB.out.cell (p := ⟨R, 1, none⟩) hlt).trans q1); have f1 := (hb2.frozen (p := ⟨R, 1, none⟩) (by simp; omega)).trans ((HB.out.frozen (p := ⟨R, 1, none⟩) hlt).trans f1); clear hb2))
          go_ret
          exact adm_bad (by decide) HRD.out HB2.out
        · have HS2 := Lib.hid (show ∀ u, Calls Tryd.prog 101 #[hdrV t f n s] u fun e w' => e = .returned (.bool true) ∧ Below u.heap.size u w' from fun u => by have := HS.out u; rwa [hs] at this)
          unfold hdrV at HS2
          have hp : ¬ ((f = 128 ∧ consB t = false) ∨ (true = true ∧ shortB f n = false)) := by rw [hs]; rw [hk]; simp
          by_cases h8 : 8 < d
          · have d8 : decide (8 < d) = true := by simpa using h8
            have hx : admE true t f n d c = 7 := by unfold admE; rw [if_neg (hp), if_pos h8]
            rw [hx]
            clear hx hk h1 hp hs h8
            go_enter Tryd.func91, Tryd.ntmps91
            go_wp2_with (first | (go_at_call 88; refine (HK2.out _).mono ?_; rintro e w' ⟨rfl, rfl⟩) | (go_at_call 101; refine (HS2.out _).mono ?_; rintro e w2 ⟨rfl, hb2⟩; have HB2 := Lib.hid (HB.out.trans (hb2.mono HB.out.size)); have q1 := (hb2.cell (p := ⟨R, 1, none⟩) (by simp; omega)).trans ((HB.out.cell (p := ⟨R, 1, none⟩) hlt).trans q1); have f1 := (hb2.frozen (p := ⟨R, 1, none⟩) (by simp; omega)).trans ((HB.out.frozen (p := ⟨R, 1, none⟩) hlt).trans f1); clear hb2))
            go_ret
            exact adm_bad (by decide) HRD.out HB2.out
          · have d8 : decide (8 < d) = false := by simpa using h8
            by_cases h9 : 256 < c + 1
            · have d9 : decide ((256 : Int) < (c : Int) + 1) = true := by simp; omega
              have hx : admE true t f n d c = 2 := by unfold admE; rw [if_neg (hp), if_neg h8, if_pos h9]
              rw [hx]
              clear hx hk h1 hp hs h8 h9
              go_enter Tryd.func91, Tryd.ntmps91
              go_wp2_with (first | (go_at_call 88; refine (HK2.out _).mono ?_; rintro e w' ⟨rfl, rfl⟩) | (go_at_call 101; refine (HS2.out _).mono ?_; rintro e w2 ⟨rfl, hb2⟩; have HB2 := Lib.hid (HB.out.trans (hb2.mono HB.out.size)); have q1 := (hb2.cell (p := ⟨R, 1, none⟩) (by simp; omega)).trans ((HB.out.cell (p := ⟨R, 1, none⟩) hlt).trans q1); have f1 := (hb2.frozen (p := ⟨R, 1, none⟩) (by simp; omega)).trans ((HB.out.frozen (p := ⟨R, 1, none⟩) hlt).trans f1); clear hb2))
              go_ret
              exact adm_count HRD.out HB2.out
            · have d9 : decide ((256 : Int) < (c : Int) + 1) = false := by simp; omega
              have hx : admE true t f n d c = 0 := by unfold admE; rw [if_neg (hp), if_neg h8, if_neg h9]
              rw [hx]
              clear hx hk h1 hp hs h8 h9
              go_enter Tryd.func91, Tryd.ntmps91
              go_wp2_with (first | (go_at_call 88; refine (HK2.out _).mono ?_; rintro e w' ⟨rfl, rfl⟩) | (go_at_call 101; refine (HS2.out _).mono ?_; rintro e w2 ⟨rfl, hb2⟩; have HB2 := Lib.hid (HB.out.trans (hb2.mono HB.out.size)); have q1 := (hb2.cell (p := ⟨R, 1, none⟩) (by simp; omega)).trans ((HB.out.cell (p := ⟨R, 1, none⟩) hlt).trans q1); have f1 := (hb2.frozen (p := ⟨R, 1, none⟩) (by simp; omega)).trans ((HB.out.frozen (p := ⟨R, 1, none⟩) hlt).trans f1); clear hb2))
              go_ret
              exact adm_count HRD.out HB2.out
  · have d1 : ((f : Int) == 128) = false := by simp; omega
    cases st
    · have hp : ¬ ((f = 128 ∧ consB t = false) ∨ (false = true ∧ shortB f n = false)) := by simp [h1]
      by_cases h8 : 8 < d
      · have d8 : decide (8 < d) = true := by simpa using h8
        have hx : admE false t f n d c = 7 := by unfold admE; rw [if_neg (hp), if_pos h8]
        rw [hx]
        clear hx h1 hp h8
        go_enter Tryd.func91, Tryd.ntmps91
        go_wp2_with (fail)
        go_ret
        exact adm_bad (by decide) HRD.out HB.out
      · have d8 : decide (8 < d) = false := by simpa using h8
        by_cases h9 : 256 < c + 1
        · have d9 : decide ((256 : Int) < (c : Int) + 1) = true := by simp; omega
          have hx : admE false t f n d c = 2 := by unfold admE; rw [if_neg (hp), if_neg h8, if_pos h9]
          rw [hx]
          clear hx h1 hp h8 h9
          go_enter Tryd.func91, Tryd.ntmps91
          go_wp2_with (fail)
          go_ret
          exact adm_count2 HRD.out _
        · have d9 : decide ((256 : Int) < (c : Int) + 1) = false := by simp; omega
          have hx : admE false t f n d c = 0 := by unfold admE; rw [if_neg (hp), if_neg h8, if_neg h9]
          rw [hx]
          clear hx h1 hp h8 h9
          go_enter Tryd.func91, Tryd.ntmps91
          go_wp2_with (fail)
          go_ret
          exact adm_count2 HRD.out _
    · cases hs : shortB f n
      · have HS2 := Lib.hid (show ∀ u, Calls Tryd.prog 101 #[hdrV t f n s] u fun e w' => e = .returned (.bool false) ∧ Below u.heap.size u w' from fun u => by have := HS.out u; rwa [hs] at this)
        unfold hdrV at HS2
        have hx : admE true t f n d c = 5 := by unfold admE; rw [if_pos (.inr ⟨rfl, hs⟩)]
        rw [hx]
        clear hx h1 hs
        go_enter Tryd.func91, Tryd.ntmps91
        go_wp2_with (first | (go_at_call 101; refine (HS2.out _).mono ?_; rintro e w2 ⟨rfl, hb2⟩; have HB2 := Lib.hid (HB.out.trans (hb2.mono HB.out.size)); have q1 := (hb2.cell (p := ⟨R, 1, none⟩) (by simp; omega)).trans ((HB.out.cell (p := ⟨R, 1, none⟩) hlt).trans q1); have f1 := (hb2.frozen (p := ⟨R, 1, none⟩) (by simp; omega)).trans ((HB.out.frozen (p := ⟨R, 1, none⟩) hlt).trans f1); clear hb2))
        go_ret
        exact adm_bad (by decide) HRD.out HB2.out
      · have HS2 := Lib.hid (show ∀ u, Calls Tryd.prog 101 #[hdrV t f n s] u fun e w' => e = .returned (.bool true) ∧ Below u.heap.size u w' from fun u => by have := HS.out u; rwa [hs] at this)
        unfold hdrV at HS2
        have hp : ¬ ((f = 128 ∧ consB t = false) ∨ (true = true ∧ shortB f n = false)) := by rw [hs]; simp [h1]
        by_cases h8 : 8 < d
        · have d8 : decide (8 < d) = true := by simpa using h8
          have hx : admE true t f n d c = 7 := by unfold admE; rw [if_neg (hp), if_pos h8]
          rw [hx]
          clear hx h1 hp hs h8
          go_enter Tryd.func91, Tryd.ntmps91
          go_wp2_with (first | (go_at_call 101; refine (HS2.out _).mono ?_; rintro e w2 ⟨rfl, hb2⟩; have HB2 := Lib.hid (HB.out.trans (hb2.mono HB.out.size)); have q1 := (hb2.cell (p := ⟨R, 1, none⟩) (by simp; omega)).trans ((HB.out.cell (p := ⟨R, 1, none⟩) hlt).trans q1); have f1 := (hb2.frozen (p := ⟨R, 1, none⟩) (by simp; omega)).trans ((HB.out.frozen (p := ⟨R, 1, none⟩) hlt).trans f1); clear hb2))
          go_ret
          exact adm_bad (by decide) HRD.out HB2.out
        · have d8 : decide (8 < d) = false := by simpa using h8
          by_cases h9 : 256 < c + 1
          · have d9 : decide ((256 : Int) < (c : Int) + 1) = true := by simp; omega
            have hx : admE true t f n d c = 2 := by unfold admE; rw [if_neg (hp), if_neg h8, if_pos h9]
            rw [hx]
            clear hx h1 hp hs h8 h9
            go_enter Tryd.func91, Tryd.ntmps91
            go_wp2_with (first | (go_at_call 101; refine (HS2.out _).mono ?_; rintro e w2 ⟨rfl, hb2⟩; have HB2 := Lib.hid (HB.out.trans (hb2.mono HB.out.size)); have q1 := (hb2.cell (p := ⟨R, 1, none⟩) (by simp; omega)).trans ((HB.out.cell (p := ⟨R, 1, none⟩) hlt).trans q1); have f1 := (hb2.frozen (p := ⟨R, 1, none⟩) (by simp; omega)).trans ((HB.out.frozen (p := ⟨R, 1, none⟩) hlt).trans f1); clear hb2))
            go_ret
            exact adm_count HRD.out HB2.out
          · have d9 : decide ((256 : Int) < (c : Int) + 1) = false := by simp; omega
            have hx : admE true t f n d c = 0 := by unfold admE; rw [if_neg (hp), if_neg h8, if_neg h9]
            rw [hx]
            clear hx h1 hp hs h8 h9
            go_enter Tryd.func91, Tryd.ntmps91
            go_wp2_with (first | (go_at_call 101; refine (HS2.out _).mono ?_; rintro e w2 ⟨rfl, hb2⟩; have HB2 := Lib.hid (HB.out.trans (hb2.mono HB.out.size)); have q1 := (hb2.cell (p := ⟨R, 1, none⟩) (by simp; omega)).trans ((HB.out.cell (p := ⟨R, 1, none⟩) hlt).trans q1); have f1 := (hb2.frozen (p := ⟨R, 1, none⟩) (by simp; omega)).trans ((HB.out.frozen (p := ⟨R, 1, none⟩) hlt).trans f1); clear hb2))
            go_ret
            exact adm_count HRD.out HB2.out
set_option maxRecDepth 8000
abbrev ObR := Int × List UInt8 × F × List UInt8 × Nat
def loopL (ob : Nat → List UInt8 → Except Int ObR) : Nat → Nat → List UInt8 → Except Int (F × Nat)
  | 0, c, _ => .ok (.nil, c)
  | _ + 1, c, [] => .ok (.nil, c)
  | m + 1, c, a :: l => match ob c (a :: l) with
    | .error e => .error e
    | .ok (t, v, k, rest, c') => match loopL ob m c' rest with
      | .error e => .error e
      | .ok (f, c'') => .ok (.cons t v k f, c'')
def loopM (ob : Nat → List UInt8 → Except Int ObR) : Nat → Nat → List UInt8 → Except Int (F × List UInt8 × Nat)
  | 0, _, _ => .error 6
  | m + 1, c, l => if l.length < 2 then .error 6 else if l.take 2 = [0, 0] then .ok (.nil, l.drop 2, c) else match ob c l with
    | .error e => .error e
    | .ok (t, v, k, rest, c') => match loopM ob m c' rest with
      | .error e => .error e
      | .ok (f, r, c'') => .ok (.cons t v k f, r, c'')
def pObj (st : Bool) : Nat → Nat → List UInt8 → Except Int ObR
  | 0, c, l => if hdrE l ≠ 0 then .error (hdrE l) else .error (admE st (tagV l) (hdrF l) (hdrN l) 9 c)
  | k + 1, c, l =>
    if hdrE l ≠ 0 then .error (hdrE l) else if admE st (tagV l) (hdrF l) (hdrN l) (8 - (k : Int)) c ≠ 0 then .error (admE st (tagV l) (hdrF l) (hdrN l) (8 - (k : Int)) c)
    else if hdrF l = 128 then
      match loopM (pObj st k) (l.drop (hdrS l)).length (c + 1) (l.drop (hdrS l)) with
      | .error e => .error e
      | .ok (f, rest, c') => .ok (tagV l, [], f, rest, c')
    else if (l.drop (hdrS l)).length < hdrN l then .error 6
    else if consB (tagV l) = false then .ok (tagV l, (l.drop (hdrS l)).take (hdrN l), .nil, (l.drop (hdrS l)).drop (hdrN l), c + 1)
    else match loopL (pObj st k) (hdrN l) (c + 1) ((l.drop (hdrS l)).take (hdrN l)) with
      | .error e => .error e
      | .ok (f, c') => .ok (tagV l, [], f, (l.drop (hdrS l)).drop (hdrN l), c')
theorem hdr_sizes {l : List UInt8} (h : hdrE l = 0) : 2 ≤ hdrS l ∧ hdrS l ≤ l.length := by
  unfold hdrE at h
  split at h
  · omega
  · split at h
    · omega
    · have hz : 2 ≤ hdrZ l := by unfold hdrZ tagN; split <;> omega
      unfold hdrS
      split
      · omega
      · split at h
        · omega
        · split at h
          · omega
          · omega
theorem numL_4 (l : List UInt8) (h : l.length ≤ 4) : numL l < 4294967296 :=
  Nat.lt_of_lt_of_le (numL_lt l) (Nat.le_trans (Nat.pow_le_pow_right (by decide) h) (by decide))
theorem hdr_range {l : List UInt8} (h : hdrE l = 0) : tagV l ≤ 65535 ∧ hdrF l < 256 ∧ hdrN l < 4294967296 := by
  have hf : hdrF l < 256 := by unfold hdrF; exact UInt8.toNat_lt _
  have hf2 : hdrF l ≤ 132 := by
    unfold hdrE at h
    split at h
    · omega
    · split at h
      · omega
      · split at h <;> omega
  refine ⟨?_, hf, ?_⟩
  · cases l with
    | nil => simp [tagV]
    | cons a r =>
      have ha := UInt8.toNat_lt a
      cases r with
      | nil => simp only [tagV]; omega
      | cons b r =>
        have hb := UInt8.toNat_lt b
        simp only [tagV]
        split <;> omega
  · unfold hdrN
    split
    · omega
    · refine numL_4 _ ?_
      rw [List.length_take]; omega
theorem adm_nine {st : Bool} {t f n c : Nat} : admE st t f n 9 c ≠ 0 := by
  unfold admE
  split
  · decide
  · rw [if_pos (by decide)]; decide
theorem adm_ok {st : Bool} {t f n c : Nat} {d : Int} (h : admE st t f n d c = 0) : c + 1 ≤ 256 := by
  unfold admE at h
  split at h
  · omega
  · split at h
    · omega
    · split at h <;> omega
theorem loopM_rest {ob : Nat → List UInt8 → Except Int ObR} (hob : ∀ c l t v k rest c', ob c l = .ok (t, v, k, rest, c') → rest.length + 2 ≤ l.length ∧ c' ≤ 256) :
    ∀ (m c : Nat) (l : List UInt8) {f : F} {rest : List UInt8} {c' : Nat}, c ≤ 256 → loopM ob m c l = .ok (f, rest, c') → rest.length ≤ l.length ∧ c' ≤ 256
  | 0, _, _, _, _, _, _, h => by simp [loopM] at h
  | m + 1, c, l, f, rest, c', hc, h => by
    unfold loopM at h
    split at h
    · cases h
    · split at h
      · injection h with h
        injection h with _ h
        injection h with h1 h2
        subst h1 h2
        exact ⟨by rw [List.length_drop]; omega, hc⟩
      · split at h
        · cases h
        · rename_i t v k r2 c2 heq
          have h1 := hob _ _ _ _ _ _ _ heq
          split at h
          · cases h
          · rename_i f2 r3 c3 heq2
            have h2 := loopM_rest hob m c2 r2 h1.2 heq2
            injection h with h
            injection h with _ h
            injection h with h3 h4
            subst h3 h4
            exact ⟨by omega, h2.2⟩
theorem loopL_count {ob : Nat → List UInt8 → Except Int ObR} (hob : ∀ c l t v k rest c', ob c l = .ok (t, v, k, rest, c') → rest.length + 2 ≤ l.length ∧ c' ≤ 256) :
    ∀ (m c : Nat) (l : List UInt8) {f : F} {c' : Nat}, c ≤ 256 → loopL ob m c l = .ok (f, c') → c' ≤ 256
  | 0, _, _, _, _, hc, h => by simp only [loopL, Except.ok.injEq, Prod.mk.injEq] at h; omega
  | m + 1, c, [], _, _, hc, h => by simp only [loopL, Except.ok.injEq, Prod.mk.injEq] at h; omega
  | m + 1, c, a :: l, f, c', hc, h => by
    unfold loopL at h
    split at h
    · cases h
    · rename_i t v k r2 c2 heq
      have h1 := hob _ _ _ _ _ _ _ heq
      split at h
      · cases h
      · rename_i f2 c3 heq2
        have h2 := loopL_count hob m c2 r2 h1.2 heq2
        injection h with h
        injection h with _ h
        subst h
        exact h2
theorem pObj_rest (st : Bool) : ∀ (k c : Nat) (l : List UInt8) (t : Int) (v : List UInt8) (kf : F) (rest : List UInt8) (c' : Nat), pObj st k c l = .ok (t, v, kf, rest, c') → rest.length + 2 ≤ l.length ∧ c' ≤ 256
  | 0, c, l, _, _, _, _, _, h => by unfold pObj at h; split at h <;> cases h
  | k + 1, c, l, t, v, kf, rest, c', h => by
    unfold pObj at h
    split at h
    · cases h
    · rename_i hE
      have hE : hdrE l = 0 := by omega
      have hs := hdr_sizes hE
      split at h
      · cases h
      · rename_i hA
        have hA := adm_ok (by omega : admE st (tagV l) (hdrF l) (hdrN l) (8 - (k : Int)) c = 0)
        split at h
        · split at h
          · cases h
          · rename_i f2 r2 c2 heq
            have h2 := loopM_rest (pObj_rest st k) _ _ _ hA heq
            simp only [Except.ok.injEq, Prod.mk.injEq] at h
            obtain ⟨_, _, _, h3, h4⟩ := h
            subst h3 h4
            rw [List.length_drop] at h2
            exact ⟨by omega, h2.2⟩
        · split at h
          · cases h
          · split at h
            · simp only [Except.ok.injEq, Prod.mk.injEq] at h
              obtain ⟨_, _, _, h3, h4⟩ := h
              subst h3 h4
              refine ⟨?_, hA⟩
              rw [List.length_drop, List.length_drop]; omega
            · split at h
              · cases h
              · rename_i f2 c2 heq
                have h2 := loopL_count (pObj_rest st k) _ _ _ hA heq
                simp only [Except.ok.injEq, Prod.mk.injEq] at h
                obtain ⟨_, _, _, h3, h4⟩ := h
                subst h3 h4
                refine ⟨?_, h2⟩
                rw [List.length_drop, List.length_drop]; omega
def newB (w w' : World) (b : Nat) : Prop := w.heap.size ≤ b ∧ b < w'.heap.size
def oldB (w : World) (R b : Nat) : Prop := b < w.heap.size ∧ b ≠ R
set_option maxRecDepth 8000
theorem info_node : (Tryd.prog.info? 54).map (fun i => (i.zero, i.size, i.bytes)) = some (some (.agg #[.int .i64 0, .slice none 0 0, .slice none 0 0]), 3, 56) := by kernel_rfl
def Held (w wr : World) (v : Value) (f : F) : Prop := ∃ cs, wr.ownsRow w.heap.size 54 3 v f.len cs ∧ HoldsP wr (fun b => newB w wr b ∧ v.ownBlock ≠ some b) f cs
theorem Held.start (w wr : World) : Held w wr (.slice none 0 0) .nil := ⟨[], ⟨rfl, .inl ⟨rfl, rfl⟩⟩, rfl⟩
theorem own_size3 {w : World} {base : Nat} {e : TypeId} {v : Value} {n : Nat} {xs : List Value} (h : w.ownsRow base e 3 v n xs) : v.ownBlock = none ∨ ∃ g, v.ownBlock = some g ∧ base ≤ g ∧ g < w.heap.size := by
  rcases h.2 with ⟨rfl, _⟩ | ⟨g, cap, cur, rfl, hb, hh, _⟩
  · left; rfl
  · right; exact ⟨g, rfl, hb, lt_of_block hh⟩
theorem Held.grown {w wr w' : World} {R : Nat} {v : Value} {f : F} (h : Held w wr v f) (hR : R < w.heap.size) (hg : wr.grownBy w' (some R)) : Held w w' v f := by
  obtain ⟨cs, h1, h2⟩ := h
  refine ⟨cs, own_far h1 hg ?_, ?_⟩
  · rcases own_size3 h1 with e | ⟨g, e, hb, _⟩
    · rw [e]; simp
    · rw [e]; intro h; injection h with h; omega
  · refine HoldsP.imp (fun _ hb => ⟨⟨hb.1.1, Nat.lt_of_lt_of_le hb.1.2 hg.size⟩, hb.2⟩) (HoldsP.keep (fun _ hq => grown_cell hg hq.1.2 (by have := hq.1.1; omega)) h2)
theorem Held.slice {w wr : World} {v : Value} {f : F} (h : Held w wr v f) : ∃ A c, v = .slice A f.len c ∧ SeesF wr (newB w wr) A f := by
  obtain ⟨cs, h1, h2⟩ := h
  rcases h1.2 with ⟨rfl, h0⟩ | ⟨g, cap, cur, rfl, hb, hh, hn, hm, hs, ht⟩
  · have : f = .nil := F.len_zero h0
    subst this
    exact ⟨none, 0, rfl, SeesF.nil_⟩
  · refine ⟨_, cap, rfl, cs, .inr ⟨g, 0, rfl, ⟨hb, lt_of_block hh⟩, fun j hj => ?_⟩, HoldsP.imp (fun _ hb => hb.1) h2⟩
    have hl := h1.1
    rw [Nat.zero_add, cell_of_row wr g j cur _ (0, 0) hh, ← ht, List.getElem?_take, if_pos (by omega), Array.getElem?_toList]
theorem Held.carry {w wr w' : World} {R : Nat} {v : Value} {f : F} {cs : List Value} (hR : R < w.heap.size) (hg : wr.grownBy w' (some R)) (h1 : wr.ownsRow w.heap.size 54 3 v f.len cs) (h2 : HoldsP wr (fun b => newB w wr b ∧ v.ownBlock ≠ some b) f cs) :
    w'.ownsRow w.heap.size 54 3 v f.len cs ∧ HoldsP w' (fun b => newB w wr b ∧ v.ownBlock ≠ some b) f cs := by
  refine ⟨own_far h1 hg ?_, HoldsP.keep (fun _ hq => grown_cell hg hq.1.2 (by have := hq.1.1; omega)) h2⟩
  rcases own_size3 h1 with e | ⟨g, e, hb, _⟩
  · rw [e]; simp
  · rw [e]; intro h; injection h with h; omega
theorem Held.snoc {w wr w1 wa w2 : World} {v : Value} {f : F} {t : Int} {x : List UInt8} {k : F} {Av Ak : Option Addr} {cv ck g cap : Nat} (h01 : wr.heap.size ≤ w1.heap.size) (ha : Below w1.heap.size w1 wa)
    (hn0 : Av = none → cv = 0) (hv : SeesP w1 (newB wr w1) Av (Us x)) (hk : SeesF w1 (newB wr w1) Ak k) (hww : w.heap.size ≤ wr.heap.size)
    (hold : v.ownBlock = none ∨ ∃ g, v.ownBlock = some g ∧ w.heap.size ≤ g ∧ g < wr.heap.size) (cs : List Value) (hc2 : HoldsP w1 (fun b => newB w wr b ∧ v.ownBlock ≠ some b) f cs)
    (ho : w2.ownsRow w.heap.size 54 3 (.slice (some ⟨g, 0, none⟩) (f.len + 1) cap) (f.len + 1) (cs ++ [.int .i64 t, .slice Av x.length cv, .slice Ak k.len ck])) (hg : wa.grownBy w2 v.ownBlock)
    (hl : v.ownBlock = some g ∨ g = wa.heap.size) : Held w w2 (.slice (some ⟨g, 0, none⟩) (f.len + 1) cap) (f.app (.cons t x k .nil)) := by
  have keep : ∀ q : Addr, q.block < w1.heap.size → v.ownBlock ≠ some q.block → w2.cell? q = w1.cell? q := fun q h1 h2 =>
    (World.cell?_of_block (w := wa) (hg.block q.block (Nat.lt_of_lt_of_le h1 ha.size) (fun e => h2 e.symm))).trans (ha.cell h1)
  have hsz : w1.heap.size ≤ w2.heap.size := Nat.le_trans ha.size hg.size
  have hwa := ha.size
  refine ⟨_, by rw [F.len_app]; exact ho, HoldsP.app ?_ ?_⟩
  · refine HoldsP.imp ?_ (HoldsP.keep (w' := w2) (fun q hq => keep q (Nat.lt_of_lt_of_le hq.1.2 h01) hq.2) hc2)
    intro b hb
    have h4 := hb.1.2
    refine ⟨⟨hb.1.1, by omega⟩, ?_⟩
    intro e
    injection e with e
    simp only at e
    rcases hl with h3 | h3
    · exact hb.2 (h3.trans (by rw [e]))
    · omega
  · have hp : ∀ b, newB wr w1 b → newB w w2 b ∧ (Value.slice (some ⟨g, 0, none⟩) (f.len + 1) cap).ownBlock ≠ some b := by
      intro b hb
      have h5 := hb.1
      have h6 := hb.2
      refine ⟨⟨by omega, by omega⟩, ?_⟩
      intro e
      injection e with e
      simp only at e
      rcases hl with h3 | h3
      · rcases hold with h4 | ⟨g2, h4, _, h7⟩
        · rw [h4] at h3; cases h3
        · rw [h4] at h3; injection h3 with h3; omega
      · omega
    have kp : ∀ q : Addr, newB wr w1 q.block → w2.cell? q = w1.cell? q := by
      intro q hq
      refine keep q hq.2 ?_
      have h5 := hq.1
      rcases hold with h4 | ⟨g2, h4, _, h7⟩
      · rw [h4]; simp
      · rw [h4]; intro e; injection e with e; omega
    obtain ⟨ks, hk1, hk2⟩ := hk
    exact ⟨Av, cv, Ak, ck, ks, [], rfl, hn0, (hv.keep kp).imp hp, (hk1.keep kp).imp hp, HoldsP.imp hp (HoldsP.keep kp hk2), rfl⟩
def joinL (acc : F) : Except Int (F × Nat) → Except Int (F × Nat)
  | .error e => .error e
  | .ok (f, c) => .ok (acc.app f, c)
theorem loopL_err {ob : Nat → List UInt8 → Except Int ObR} {m c : Nat} {l : List UInt8} (hl : l ≠ []) {x : Int} (h : ob c l = .error x) : loopL ob (m + 1) c l = .error x := by
  cases l with
  | nil => exact absurd rfl hl
  | cons a l => simp only [loopL, h]
theorem loopL_ok {ob : Nat → List UInt8 → Except Int ObR} {m c : Nat} {l : List UInt8} (hl : l ≠ []) {t : Int} {v : List UInt8} {k : F} {rest : List UInt8} {c' : Nat} (h : ob c l = .ok (t, v, k, rest, c')) :
    loopL ob (m + 1) c l = joinL (.cons t v k .nil) (loopL ob m c' rest) := by
  cases l with
  | nil => exact absurd rfl hl
  | cons a l =>
    simp only [loopL, h]
    cases loopL ob m c' rest with
    | error e => rfl
    | ok q2 => obtain ⟨f, c2⟩ := q2; rfl
theorem joinL_join (a b : F) (r : Except Int (F × Nat)) : joinL a (joinL b r) = joinL (a.app b) r := by
  cases r with
  | error e => rfl
  | ok q => obtain ⟨f, c⟩ := q; simp only [joinL]; rw [F.app_assoc]
theorem joinL_nil (r : Except Int (F × Nat)) : joinL .nil r = r := by
  cases r with
  | error e => rfl
  | ok q => obtain ⟨f, c⟩ := q; rfl
theorem loopL_end (ob : Nat → List UInt8 → Except Int ObR) (m c : Nat) : loopL ob m c [] = .ok (.nil, c) := by cases m <;> rfl
def lenOf : Value → Nat
  | .slice _ n _ => n
  | _ => 0
theorem node_cells (t : Int) (Av : Option Addr) (lv cv : Nat) (Ak : Option Addr) (lk ck : Nat) : ∀ u ∈ [Value.int .i64 t, .slice Av lv cv, .slice Ak lk ck], u.oneCell' = true := by
  intro u hu
  simp only [List.mem_cons, List.not_mem_nil, or_false] at hu
  rcases hu with rfl | rfl | rfl <;> rfl
end Go.Proofs.YtcapbojjceeapaaDoor
