/-
  What is proved here: what the program's readHeader returns, for bytes that lie in memory.
-/
import Derived.Test.YtkgfdbbdmchmeaaDoorZ6
import Derived.Test.YtkgfdbbdmchmeaaDoorRows
import Derived.Test.YtkgfdbbdmchmeaaDoorZ0
import Derived.Test.YtkgfdbbdmchmeaaDoorZ5
import Derived.Laws.ResultCell
import Derived.Laws.Rows
namespace Go.Proofs.YtkgfdbbdmchmeaaDoor
open Go.RowKit
def hdrZ (l : List UInt8) : Nat := tagN (tagV l : Nat) + 1
def hdrF (l : List UInt8) : Nat := (l.getD (hdrZ l - 1) 0).toNat
def hdrE (l : List UInt8) : Int :=
  if tagE l ≠ 0 then tagE l else if l.length < hdrZ l then 6 else if 132 < hdrF l then 5 else if hdrF l ≤ 127 then 0 else if l.length - hdrZ l < hdrF l - 128 then 6 else 0
def hdrN (l : List UInt8) : Nat := if hdrF l ≤ 127 then hdrF l else numL_Hdr ((l.drop (hdrZ l)).take (hdrF l - 128))
def hdrS (l : List UInt8) : Nat := if hdrF l ≤ 127 then hdrZ l else hdrZ l + (hdrF l - 128)
def hdrV (t f n s : Int) : Value := .agg #[.int .i64 t, .int .u8 f, .int .i64 n, .int .i64 s]
def HdrIs (l : List UInt8) (w : World) (e : Ending) (w' : World) : Prop :=
  (if hdrE l = 0 then e = .returned (.tuple #[hdrV (tagV l) (hdrF l) (hdrN l) (hdrS l), .int .i64 0]) else e = .returned (.tuple #[hdrV 0 0 0 0, .int .i64 (hdrE l)])) ∧ Below w.heap.size w w'
theorem hdr_bad {l : List UInt8} {x : Int} {w w' : World} (h : hdrE l = x) (hx : x ≠ 0) (hb : Below w.heap.size w w') : HdrIs l w (.returned (.tuple #[hdrV 0 0 0 0, .int .i64 x])) w' := by
  unfold HdrIs; rw [h, if_neg hx]; exact ⟨rfl, hb⟩
theorem hdr_good {l : List UInt8} {t f n s : Nat} {w w' : World} (h : hdrE l = 0) (h1 : tagV l = t) (h2 : hdrF l = f) (h3 : hdrN l = n) (h4 : hdrS l = s) (hb : Below w.heap.size w w') :
    HdrIs l w (.returned (.tuple #[hdrV t f n s, .int .i64 0])) w' := by
  unfold HdrIs; rw [h, if_pos rfl, h1, h2, h3, h4]; exact ⟨rfl, hb⟩
theorem ret_cell_tmp2 {P : Program} {fn : Func} {p u v : Tmp} {ty : TypeId} (h : fn.results = #[.cell p ty, .tmp u, .tmp v]) (tmps : Array Value) (w : World) (g : Nat) (t : TypeId) (cs : Array Value) (fr : Nat × Nat) (d : TypeDesc)
    (hp : tmps.getD p undef = .pointer (some ⟨g, 0, none⟩)) (hg : w.heap[g]? = some (.cells cs t fr))
    (hu : P.underlying ty = some d) (hd : (match d with | .struct _ | .array _ _ => true | _ => false) = true) (hi : (P.info? ty).map (·.size) = some cs.size) :
    (results fn tmps).run P w = .ok (.tuple #[.agg cs, tmps.getD u undef, tmps.getD v undef]) w := by
  have hp' : tmps[p]?.getD undef = .pointer (some ⟨g, 0, none⟩) := by simpa using hp
  simp only [results, h]
  simp [hp', asAddr, run_loadVar_row w g t ty cs fr d hg hu hd hi, Result.andThen]
theorem info_hdr : (Tryd.prog.info? 90).map (·.size) = some 4 := by kernel_rfl
def HdrRel (w : World) (l : List UInt8) (t m z k n : Nat) (wr : World) : Prop :=
  n = numL_Hdr ((l.drop (z + 1)).take k) ∧ Below w.heap.size w wr ∧
  wr.heap[w.heap.size]? = some (.cells #[.int .i64 0, .int .u8 0, .int .i64 0, .int .i64 0] 90 (0, 0)) ∧
  wr.heap[w.heap.size + 1]? = some (.cells #[.int .i64 t, .int .u8 ((128 : Int) + m), .int .i64 n, .int .i64 ((z : Int) + 1)] 90 (0, 0))
theorem HdrRel.start (w : World) (l : List UInt8) (t m z : Nat) :
    HdrRel w l t m z 0 0 ((w.alloc (.cells #[.int .i64 0, .int .u8 0, .int .i64 0, .int .i64 0] 90)).alloc (.cells #[.int .i64 t, .int .u8 ((128 : Int) + m), .int .i64 0, .int .i64 ((z : Int) + 1)] 90)) := by
  refine ⟨by simp [numL_Hdr], ((Below.refl _ _).alloc (Nat.le_refl _) _).alloc (by simp) _, block_alloc (heap_alloc_new w _) _, block_next w _ _⟩
theorem numL_snoc_HdrB {l : List UInt8} {k : Nat} (h : k < l.length) : numL_Hdr (l.take (k + 1)) = numL_Hdr (l.take k) * 256 + l[k].toNat := by
  rw [List.take_succ_eq_append_getElem h]
  unfold numL_Hdr
  rw [List.foldl_append]
  rfl
theorem foldl_lt : ∀ (l : List UInt8) (n k : Nat), n < 256 ^ k → l.foldl (fun n c => n * 256 + c.toNat) n < 256 ^ (k + l.length)
  | [], _, _, h => h
  | a :: r, n, k, h => by
    have h2 := UInt8.toNat_lt a
    have := foldl_lt r (n * 256 + a.toNat) (k + 1) (by rw [Nat.pow_succ]; omega)
    rw [List.length_cons, show k + (r.length + 1) = k + 1 + r.length by omega]
    exact this
theorem numL_lt_HdrB (l : List UInt8) : numL_Hdr l < 256 ^ l.length := by
  have := foldl_lt l 0 0 (by decide)
  rw [Nat.zero_add] at this
  exact this
theorem HdrRel.step {w wr : World} {l : List UInt8} {t m z k n y : Nat} (h : HdrRel w l t m z k n wr) (hk : z + 1 + k < l.length) (hy : y = (l[z + 1 + k]'hk).toNat) :
    HdrRel w l t m z (k + 1) (n * 256 + y) (wr.setCell ⟨w.heap.size + 1, 2, none⟩ (.int .i64 ((n : Int) * 256 + y))).drew := by
  obtain ⟨h1, h2, h3, h4⟩ := h
  refine ⟨?_, (h2.setCell (p := ⟨w.heap.size + 1, 2, none⟩) (by simp) _).drew, block_far (a := ⟨w.heap.size + 1, 2, none⟩) h3 (by simp) _, ?_⟩
  · rw [numL_snoc_HdrB (by rw [List.length_drop]; omega), ← h1, hy]
    simp [List.getElem_drop]
  · have := block_set (i := 2) (w := wr) (b := w.heap.size + 1) h4 (.int .i64 ((n : Int) * 256 + y))
    have e : (((n * 256 + y : Nat)) : Int) = (n : Int) * 256 + y := by omega
    rw [e]
    exact this
set_option maxHeartbeats 1000000 in
set_option maxRecDepth 4000 in
theorem read_header (A : Option Addr) (c : Nat) (l : List UInt8) (w : World) (hs : SeesP w (· < w.heap.size) A (Us l)) (hl : l.length ≤ 140737488351232) :
    Calls Tryd.prog 78 #[.slice A l.length c] w (HdrIs l w) := by
  obtain ⟨x, hx⟩ : ∃ x, x = tagE l := ⟨_, rfl⟩
  have hT : ∀ u, Below w.heap.size w u → Calls Tryd.prog 82 #[.slice A l.length c] u (TagIs l u) := fun u hu => read_tag A c l u _ (hs.keep fun _ hq => hu.cell hq) hl
  unfold TagIs at hT
  rw [← hx] at hT
  by_cases h1 : x = 0
  · subst h1
    rw [if_pos rfl] at hT
    obtain ⟨t, ht⟩ : ∃ t, t = tagV l := ⟨_, rfl⟩
    rw [← ht] at hT
    obtain ⟨z, hz⟩ : ∃ z, z = tagN (t : Int) := ⟨_, rfl⟩
    have hzz : hdrZ l = z + 1 := by unfold hdrZ; rw [← ht, ← hz]
    have hz2 : z ≤ 2 := by rw [hz]; exact tagN_le t
    have hG : ∀ u, Calls Tryd.prog 56 #[.int .i64 (t : Int)] u fun e w' => e = .returned (.int .i64 (z : Int)) ∧ w' = u := fun u => tag_sizeN t z hz u
    have HT := Lib.hid hT
    have HG := Lib.hid hG
    clear hT hG hz
    by_cases h2 : l.length < z + 1
    · have d2 : decide ((l.length : Int) < (z : Int) + 1) = true := by simp; omega
      have hd : ∀ w', Below w.heap.size w w' → HdrIs l w (.returned (.tuple #[hdrV 0 0 0 0, .int .i64 6])) w' := fun w' hw => hdr_bad (by unfold hdrE; rw [if_neg (by omega), hzz, if_pos h2]) (by decide) hw
      have HD := Lib.hid hd
      clear hd hs h2 hx ht hzz
      go_enter Tryd.func78, Tryd.ntmps78
      go_wp2_with (first | (go_at_call 82; refine (HT.out _ ((Below.refl _ _).alloc (Nat.le_refl _) _)).mono ?_; rintro e w' ⟨rfl, rfl⟩) | (go_at_call 56; refine (HG.out _).mono ?_; rintro e w' ⟨rfl, rfl⟩))
      first | (refine bodyPost_ret (ret_cell_tmp rfl _ _ _ _ _ _ _ rfl (heap_alloc_new _ _) Tryd.underlying90 rfl info_hdr) rfl ?_) | (refine bodyPost_ret (ret_cell_tmp rfl _ _ _ _ _ _ _ rfl (block_alloc (heap_alloc_new _ _) _) Tryd.underlying90 rfl info_hdr) rfl ?_)
      refine HD.out _ ?_
      repeat' (first | exact Below.refl _ _ | refine Below.setCell ?_ ?_ _ | refine Below.alloc ?_ ?_ _ | (simp; done))
    · have d2 : decide (l.length < z + 1) = false := by simpa using h2
      have d2' : decide ((l.length : Int) < (z : Int) + 1) = false := by simp; omega
      have hlz : z < l.length := by omega
      obtain ⟨b, off, rfl, hp, g0⟩ := sees_byte hs (k := z) hlz
      obtain ⟨f, hf⟩ : ∃ f, f = (l[z]'hlz).toNat := ⟨_, rfl⟩
      have hff : hdrF l = f := by unfold hdrF; rw [hzz, hf]; simp [List.getD, List.getElem?_eq_getElem hlz]
      have hf8 : f < 256 := by rw [hf]; exact UInt8.toNat_lt _
      rw [← hf] at g0
      by_cases h3 : 132 < f
      · have d3 : decide ((132 : Int) < (f : Int)) = true := by simp; omega
        have hd : ∀ w', Below w.heap.size w w' → HdrIs l w (.returned (.tuple #[hdrV 0 0 0 0, .int .i64 5])) w' := fun w' hw => hdr_bad (by unfold hdrE; rw [if_neg (by omega), hzz, if_neg h2, hff, if_pos h3]) (by decide) hw
        have HD := Lib.hid hd
        clear hd hs hf hff h2 h3 hx ht hzz
        go_enter Tryd.func78, Tryd.ntmps78
        go_wp2_with (first | (go_at_call 82; refine (HT.out _ ((Below.refl _ _).alloc (Nat.le_refl _) _)).mono ?_; rintro e w' ⟨rfl, rfl⟩) | (go_at_call 56; refine (HG.out _).mono ?_; rintro e w' ⟨rfl, rfl⟩))
        first | (refine bodyPost_ret (ret_cell_tmp rfl _ _ _ _ _ _ _ rfl (heap_alloc_new _ _) Tryd.underlying90 rfl info_hdr) rfl ?_) | (refine bodyPost_ret (ret_cell_tmp rfl _ _ _ _ _ _ _ rfl (block_alloc (heap_alloc_new _ _) _) Tryd.underlying90 rfl info_hdr) rfl ?_)
        refine HD.out _ ?_
        repeat' (first | exact Below.refl _ _ | refine Below.setCell ?_ ?_ _ | refine Below.alloc ?_ ?_ _ | (simp; done))
      · have d3 : decide ((132 : Int) < (f : Int)) = false := by simp; omega
        by_cases h4 : f ≤ 127
        · have d4 : decide ((f : Int) ≤ 127) = true := by simp; omega
          have hd : ∀ w', Below w.heap.size w w' → HdrIs l w (.returned (.tuple #[hdrV t f f ((z : Int) + 1), .int .i64 0])) w' := fun w' hw => by
            have e2 : ((z + 1 : Nat) : Int) = (z : Int) + 1 := by omega
            rw [← e2]
            exact hdr_good (by unfold hdrE; rw [if_neg (by omega), hzz, if_neg h2, hff, if_neg h3, if_pos h4]) ht.symm hff (by unfold hdrN; rw [hff, if_pos h4]) (by unfold hdrS; rw [hff, if_pos h4, hzz]) hw
          have HD := Lib.hid hd
          clear hd hs hf hff h2 h3 h4 hx ht hzz
          go_enter Tryd.func78, Tryd.ntmps78
          go_wp2_with (first | (go_at_call 82; refine (HT.out _ ((Below.refl _ _).alloc (Nat.le_refl _) _)).mono ?_; rintro e w' ⟨rfl, rfl⟩) | (go_at_call 56; refine (HG.out _).mono ?_; rintro e w' ⟨rfl, rfl⟩))
          first | (refine bodyPost_ret (ret_cell_tmp rfl _ _ _ _ _ _ _ rfl (block_alloc (heap_alloc_new _ _) _) Tryd.underlying90 rfl info_hdr) rfl ?_)
          refine HD.out _ ?_
          repeat' (first | exact Below.refl _ _ | refine Below.setCell ?_ ?_ _ | refine Below.alloc ?_ ?_ _ | (simp; done))
        · have d4 : decide ((f : Int) ≤ 127) = false := by simp; omega
          by_cases h5 : l.length - (z + 1) < f - 128
          · have hE : hdrE l = 6 := by unfold hdrE; rw [if_neg (by omega), hzz, if_neg h2, hff, if_neg h3, if_neg h4, if_pos h5]
            obtain ⟨m, rfl⟩ : ∃ m, f = 128 + m := ⟨f - 128, by omega⟩
            have g0 : w.cell? ⟨b, off + z, none⟩ = some (.int .u8 ((128 : Int) + (m : Int))) := by rw [g0]; simp
            have d3 : decide ((132 : Int) < (128 : Int) + (m : Int)) = false := by simp; omega
            have d4 : decide ((128 : Int) + (m : Int) ≤ 127) = false := by simp; omega
            have d5 : decide ((l.length : Int) - ((z : Int) + 1) < (128 : Int) + (m : Int) - 128) = true := by simp; omega
            have hm : m ≤ 4 := by omega
            clear h5
            have hd : ∀ w', Below w.heap.size w w' → HdrIs l w (.returned (.tuple #[hdrV 0 0 0 0, .int .i64 6])) w' := fun w' hw => hdr_bad (by exact hE) (by decide) hw
            have HD := Lib.hid hd
            clear hd hs hf hff h2 h3 h4 hx ht hzz hE hf8
            go_enter Tryd.func78, Tryd.ntmps78
            go_wp2_with (first | (go_at_call 82; refine (HT.out _ ((Below.refl _ _).alloc (Nat.le_refl _) _)).mono ?_; rintro e w' ⟨rfl, rfl⟩) | (go_at_call 56; refine (HG.out _).mono ?_; rintro e w' ⟨rfl, rfl⟩))
            first | (refine bodyPost_ret (ret_cell_tmp rfl _ _ _ _ _ _ _ rfl (heap_alloc_new _ _) Tryd.underlying90 rfl info_hdr) rfl ?_) | (refine bodyPost_ret (ret_cell_tmp rfl _ _ _ _ _ _ _ rfl (block_alloc (heap_alloc_new _ _) _) Tryd.underlying90 rfl info_hdr) rfl ?_)
            refine HD.out _ ?_
            repeat' (first | exact Below.refl _ _ | refine Below.setCell ?_ ?_ _ | refine Below.alloc ?_ ?_ _ | (simp; done))
          · obtain ⟨m, rfl⟩ : ∃ m, f = 128 + m := ⟨f - 128, by omega⟩
            have d5 : decide ((l.length : Int) - ((z : Int) + 1) < (m : Int)) = false := by simp; omega
            have HS := Lib.hid hs
            have hm : m ≤ 4 := by omega
            have g0 : w.cell? ⟨b, off + z, none⟩ = some (.int .u8 ((128 : Int) + (m : Int))) := by rw [g0]; simp
            have d3 : decide ((132 : Int) < (128 : Int) + (m : Int)) = false := by simp; omega
            have d4 : decide ((128 : Int) + (m : Int) ≤ 127) = false := by simp; omega
            have hlz2 : z + 1 + m ≤ l.length := by omega
            have HF := Lib.hid (show tagE l = 0 ∧ tagV l = t ∧ hdrZ l = z + 1 ∧ hdrF l = 128 + m from ⟨hx.symm, ht.symm, hzz, hff⟩)
            clear h2 h3 h4 h5 hs hf hf8 hff hx ht hzz
            go_enter Tryd.func78, Tryd.ntmps78
            go_wp2_with (first | (go_at_call 82; refine (HT.out _ ((Below.refl _ _).alloc (Nat.le_refl _) _)).mono ?_; rintro e w' ⟨rfl, rfl⟩) | (go_at_call 56; refine (HG.out _).mono ?_; rintro e w' ⟨rfl, rfl⟩))
            go_loopw [63] (fun i wr => ∃ k n : Nat, k ≤ m ∧ i = .int .i64 k ∧ n < 4294967296 ∧ Hid (HdrRel w l t m z k n wr)) (fun i _ => m - (intOf i).toNat)
            case atStart => exact ⟨0, 0, Nat.zero_le _, rfl, by decide, Lib.hid (HdrRel.start w l t m z)⟩
            case round =>
              obtain ⟨k, n, hk, rfl, hn, HR⟩ := hrel
              have hb := HR.out.2.1
              have b1 := HR.out.2.2.2
              have c2 := cell_of_row wr (w.heap.size + 1) 2 _ _ _ b1
              have c3 := cell_of_row wr (w.heap.size + 1) 3 _ _ _ b1
              have f2 := frozen_of_row wr (w.heap.size + 1) 2 _ _ b1
              simp only [List.getElem?_toArray, List.getElem?_cons_succ, List.getElem?_cons_zero] at c2 c3
              by_cases hlt : k < m
              · have hk2 : z + 1 + k < l.length := by omega
                obtain ⟨b2, off2, e2, _, g1⟩ := sees_byte HS.out (k := z + 1 + k) hk2
                injection e2 with e2
                injection e2 with e3 e4
                subst e3 e4
                obtain ⟨y, hy⟩ : ∃ y, y = (l[z + 1 + k]'hk2).toNat := ⟨_, rfl⟩
                have hy8 : y < 256 := by rw [hy]; exact UInt8.toNat_lt _
                rw [← hy] at g1
                have g1 := (hb.cell (p := ⟨b, off + (z + 1 + k), none⟩) hp).trans g1
                have eor := or_256 n y hn hy8
                have hn2 : n * 256 + y < 4294967296 := by
                  have := numL_lt_HdrB ((l.drop (z + 1)).take (k + 1))
                  have e := (HR.out.step hk2 hy).1
                  rw [← e] at this
                  refine Nat.lt_of_lt_of_le this ?_
                  refine Nat.le_trans (Nat.pow_le_pow_right (by decide) (show _ ≤ 4 from ?_)) (by decide)
                  rw [List.length_take]; omega
                have HY := Lib.hid hy
                clear hy b1 hb
                go_wp2_with fail
                go_region
                all_goals
                  go_wp2_with fail
                  go_roundw
                  case rel => exact ⟨k + 1, n * 256 + y, by omega, by go_num, hn2, Lib.hid (HR.out.step hk2 HY.out)⟩
                  case measure => simp [intOf]; omega
              · obtain rfl : k = m := by omega
                have c0 := cell_of_row wr (w.heap.size + 1) 0 _ _ _ b1
                have c1 := cell_of_row wr (w.heap.size + 1) 1 _ _ _ b1
                have f3 := frozen_of_row wr (w.heap.size + 1) 3 _ _ b1
                have b0 := HR.out.2.2.1
                have q0 := cell_of_row wr w.heap.size 0 _ _ _ b0
                have q1 := cell_of_row wr w.heap.size 1 _ _ _ b0
                have q2 := cell_of_row wr w.heap.size 2 _ _ _ b0
                have q3 := cell_of_row wr w.heap.size 3 _ _ _ b0
                have r0 := frozen_of_row wr w.heap.size 0 _ _ b0
                have r1 := frozen_of_row wr w.heap.size 1 _ _ b0
                have r2 := frozen_of_row wr w.heap.size 2 _ _ b0
                have r3 := frozen_of_row wr w.heap.size 3 _ _ b0
                simp only [List.getElem?_toArray, List.getElem?_cons_succ, List.getElem?_cons_zero] at c0 c1 q0 q1 q2 q3
                have hE : hdrE l = 0 := by
                  unfold hdrE
                  rw [if_neg (by rw [HF.out.1]; omega), HF.out.2.2.1, HF.out.2.2.2, if_neg (by omega), if_neg (by omega), if_neg (by omega), if_neg (by omega)]
                have hN : hdrN l = n := by
                  unfold hdrN
                  rw [HF.out.2.2.1, HF.out.2.2.2, if_neg (by omega), HR.out.1, show 128 + k - 128 = k by omega]
                have hS : hdrS l = z + 1 + k := by
                  unfold hdrS
                  rw [HF.out.2.2.1, HF.out.2.2.2, if_neg (by omega)]; omega
                have hd : ∀ w', Below w.heap.size w w' → HdrIs l w (.returned (.tuple #[.agg #[.int .i64 t, .int .u8 ((128 : Int) + k), .int .i64 n, .int .i64 ((z : Int) + 1 + (128 + k - 128))], .int .i64 0])) w' := fun w' hw => by
                  have h := hdr_good hE HF.out.2.1 HF.out.2.2.2 hN hS hw
                  have e1 : ((128 + k : Nat) : Int) = (128 : Int) + k := by omega
                  have e2 : ((z + 1 + k : Nat) : Int) = (z : Int) + 1 + (128 + k - 128) := by omega
                  rw [e1, e2] at h
                  exact h
                have HD := Lib.hid hd
                have HB := Lib.hid hb
                clear b0 b1 hb hE hN hS hd
                go_wp2_with fail
                refine bodyPost_ret (ret_cell_tmp rfl _ _ _ _ _ _ _ rfl (block_set (block_set (block_set (block_set (block_far HR.out.2.2.1 (by simp) _) _) _) _) _) Tryd.underlying90 rfl info_hdr) rfl ?_
                refine HD.out _ ?_
                repeat' (first | exact HB.out | refine Below.setCell ?_ ?_ _ | (simp; done))
  · rw [if_neg h1] at hT
    have HT := Lib.hid hT
    have d1 : (x != 0) = true := by simpa using h1
    have hd : ∀ w', Below w.heap.size w w' → HdrIs l w (.returned (.tuple #[hdrV 0 0 0 0, .int .i64 x])) w' := fun w' hw => hdr_bad (by unfold hdrE; rw [if_pos (by omega)]; exact hx.symm) h1 hw
    have HD := Lib.hid hd
    clear hd hT hs hx h1
    go_enter Tryd.func78, Tryd.ntmps78
    go_wp2_with (go_at_call 82; refine (HT.out _ ((Below.refl _ _).alloc (Nat.le_refl _) _)).mono ?_; rintro e w' ⟨rfl, rfl⟩)
    first | (refine bodyPost_ret (ret_cell_tmp rfl _ _ _ _ _ _ _ rfl (heap_alloc_new _ _) Tryd.underlying90 rfl info_hdr) rfl ?_) | (refine bodyPost_ret (ret_cell_tmp rfl _ _ _ _ _ _ _ rfl (block_alloc (heap_alloc_new _ _) _) Tryd.underlying90 rfl info_hdr) rfl ?_)
    refine HD.out _ ?_
    repeat' (first | exact Below.refl _ _ | refine Below.setCell ?_ ?_ _ | refine Below.alloc ?_ ?_ _ | (simp; done))
end Go.Proofs.YtkgfdbbdmchmeaaDoor
