/-
  What is proved here: what the program's object returns, where list and listToMark return what they should one level down, for bytes that lie in memory.
-/
import Derived.Test.YtipmmclahngabaaRows
import Derived.Test.YtipmmclahngabaaKit
import Derived.Test.YtipmmclahngabaaLists
import Derived.Test.YtipmmclahngabaaMrk
namespace Go.Proofs.Ytipmmclahngabaa
open Go.RowKit

theorem info_u8s : (Try.prog.info? 5).map (·.size) = some 1 := by kernel_rfl
theorem info_nodeS : (Try.prog.info? 32).map (·.size) = some 3 := by kernel_rfl

set_option maxHeartbeats 400000 in
theorem clone_bytes (A : Option Addr) (l : List UInt8) (c : Nat) (w : World) (p : Nat → Prop) (hp : ∀ x, p x → x < w.heap.size) (hl : l.length ≤ 140737488351232) (hs : SeesP w p A (Us l)) :
    Calls Try.prog 62 #[.slice A l.length c] w fun e w' => ∃ g, e = .returned (.slice (some ⟨g, 0, none⟩) l.length l.length) ∧ SeesP w' (newB w w') (some ⟨g, 0, none⟩) (Us l) ∧ Below w.heap.size w w' := by
  obtain ⟨i0, hi, hz0, hz1, hz2⟩ := info_parts info_u8b
  have HS := Lib.hid (hs.imp hp)
  clear hs
  go_enter Try.func62, Try.ntmps62
  go_wp2_with (first | (at_make; refine wpList_make_full _ rfl _ _ 27 rfl w.heap.size 5 i0 (.int .u8 0) 1 Try.underlying27 hi hz0 hz1 _ _ _ _ l.length rfl rfl rfl rfl (by rw [hz2]; omega) (by unfold maxLen; omega) (Nat.le_refl _) ?_; intro w1 hown hgrow; have hb := (Below.refl w.heap.size w).grown hgrow (Nat.le_refl _) (by simp); have hsee := (show Sees w w.heap.size A (Us l) from HS.out).below hb) | (with_reducible refine wpList_copy_fill rfl (.tmp 7) (.tmp 8) 27 27 rfl 5 Try.underlying27 info_u8s w.heap.size w.heap.size l.length l.length _ rfl hown A l.length c w.heap.size (Us l) rfl (Us_length _) hsee (Us_one _) ?_; intro w2 ho hg))
  have hb2 := hb.grown hg hb.size (by simp)
  rw [List.take_of_length_le (by rw [Us_length]; exact Nat.le_refl _), List.drop_eq_nil_of_le (by simp [Us, Value.cells, toList_madeCells_one]), List.append_nil] at ho
  have hse := Sees.of_own ho
  have HF := Lib.hid (show SeesP w2 (newB w w2) (some ⟨w.heap.size, 0, none⟩) (Us l) ∧ Below w.heap.size w w2 from ⟨by
    rcases hse with h | ⟨b, o, e, hlt, hc⟩
    · exact .inl h
    · injection e with e
      injection e with e1 e2
      subst e1 e2
      exact .inr ⟨_, _, rfl, ⟨Nat.le_refl _, hlt⟩, hc⟩, hb2⟩)
  clear hb2 hse ho hg hown hgrow hb hsee
  go_wp2_with fail
  go_ret
  exact ⟨_, rfl, HF.out.1, HF.out.2⟩

/-- the variables of object behind its header's check -/
def ObSt (w : World) (R : Nat) (st : Bool) (N t f n s c : Nat) (w2 : World) : Prop :=
  w.grownBy w2 (some R) ∧ Rd w2 R st c ∧ w2.heap[w.heap.size]? = some (.cells #[.int .i64 0, .slice none 0 0, .slice none 0 0] 32 (0, 0)) ∧
  w2.heap[N]? = some (.cells #[.int .i64 t, .int .u8 f, .int .i64 n, .int .i64 s] 72 (0, 0)) ∧ w.heap.size < N ∧ R < w.heap.size
theorem grown_block {a b : World} {R k : Nat} {o : Obj} (hg : a.grownBy b (some R)) (h : a.heap[k]? = some o) (hk : k ≠ R) : b.heap[k]? = some o :=
  (hg.block k (lt_of_block h) (by intro e; injection e with e; exact hk e)).trans h
theorem ObSt.grown {w w2 w3 : World} {R : Nat} {st : Bool} {N t f n s c c' : Nat} (h : ObSt w R st N t f n s c w2) (hg : w2.grownBy w3 (some R)) (hr : Rd w3 R st c') : ObSt w R st N t f n s c' w3 := by
  obtain ⟨h1, _, h3, h4, h5, h6⟩ := h
  exact ⟨grown_trans h1 hg, hr, grown_block hg h3 (by omega), grown_block hg h4 (by omega), h5, h6⟩
theorem ObSt.mk' {w w1 w2 : World} {R : Nat} {st : Bool} {t f n s c c' : Nat} (hr : Rd w R st c) (hb1 : Below (w.alloc (.cells #[.int .i64 0, .slice none 0 0, .slice none 0 0] 32)).heap.size (w.alloc (.cells #[.int .i64 0, .slice none 0 0, .slice none 0 0] 32)) w1)
    (hg : (w1.alloc (.cells #[.int .i64 t, .int .u8 f, .int .i64 n, .int .i64 s] 72)).grownBy w2 (some R)) (hr2 : Rd w2 R st c') : ObSt w R st w1.heap.size t f n s c' w2 := by
  have hR := lt_of_block hr
  have hs := hb1.size
  simp only [World.size_alloc] at hs
  refine ⟨?_, hr2, ?_, ?_, by omega, hR⟩
  · exact grown_trans (grown_below (below_on ((Below.refl _ _).alloc (Nat.le_refl _) _) (hb1.mono (Nat.le_refl _)))) (grown_trans (grown_alloc w1 _ (some R)) hg)
  · refine grown_block hg (block_alloc ?_ _) (by omega)
    exact (hb1.block w.heap.size (by simp)).trans (heap_alloc_new w _)
  · exact grown_block hg (heap_alloc_new w1 _) (by omega)
/-- what lies behind object's last store -/
def Fin (w w3 W : World) : Prop := w3.heap.size ≤ W.heap.size ∧ (∀ k, k < w3.heap.size → k ≠ w.heap.size → W.heap[k]? = w3.heap[k]?) ∧ W.os = w3.os ∧ W.tape = w3.tape ∧ W.output = w3.output
theorem Fin.set (w w3 : World) (a b c : Value) : Fin w w3 (((w3.setCell ⟨w.heap.size, 0, none⟩ a).setCell ⟨w.heap.size, 1, none⟩ b).setCell ⟨w.heap.size, 2, none⟩ c) := by
  refine ⟨by simp, fun k _ hk => ?_, rfl, rfl, rfl⟩
  rw [Below.heap_setCell _ _ _ k hk, Below.heap_setCell _ _ _ k hk, Below.heap_setCell _ _ _ k hk]
theorem Fin.alloc {w w3 W : World} (h : Fin w w3 W) (o : Obj) : Fin w w3 (W.alloc o) := by
  obtain ⟨h1, h2, h3, h4, h5⟩ := h
  exact ⟨by simp; omega, fun k hk hk2 => (Below.heap_alloc W o k (by omega)).trans (h2 k hk hk2), h3, h4, h5⟩
theorem Fin.drewN {w w3 W : World} (h : Fin w w3 W) (n : Nat) : Fin w w3 (W.drewN n) := h
theorem Fin.cell {w w3 W : World} (h : Fin w w3 W) {q : Addr} (h1 : q.block < w3.heap.size) (h2 : q.block ≠ w.heap.size) : W.cell? q = w3.cell? q := World.cell?_of_block (h.2.1 _ h1 h2)
theorem Fin.grown {w w3 W : World} {R : Nat} (h : Fin w w3 W) (hg : w.grownBy w3 (some R)) : w.grownBy W (some R) := by
  obtain ⟨h2, h3, h4, h5, h6⟩ := h
  exact ⟨h4.trans hg.os, h5.trans hg.tape, h6.trans hg.output, Nat.le_trans hg.size h2, fun k hk hk2 => (h3 k (Nat.lt_of_lt_of_le hk hg.size) (Nat.ne_of_lt hk)).trans (hg.block k hk hk2)⟩
theorem Fin.rd {w w3 W : World} {R : Nat} {st : Bool} {c : Nat} (h : Fin w w3 W) (hr : Rd w3 R st c) (hR : R < w.heap.size) : Rd W R st c :=
  (h.2.1 R (lt_of_block hr) (by omega)).trans hr

theorem obj_err {w w3 W : World} {R : Nat} {p : Nat → Prop} {st : Bool} {c : Nat} {x t : Int} {A1 A2 A : Option Addr} {n1 c1 n2 c2 n m : Nat} (hx : x ≠ 0) (hf : Fin w w3 W) (hg : w.grownBy w3 (some R)) (hr : Rd w3 R st c) (hR : R < w.heap.size) :
    ObjIs w R p st (.error x) (.returned (.tuple #[.agg #[.int .i64 t, .slice A1 n1 c1, .slice A2 n2 c2], .slice A n m, .int .i64 x])) W :=
  ⟨hf.grown hg, t, A1, n1, c1, A2, n2, c2, A, n, m, c, rfl, hx, hf.rd hr hR⟩

theorem obj_ok {w w2 w3 W : World} {R : Nat} {p : Nat → Prop} {st : Bool} {c' : Nat} {t : Int} {v : List UInt8} {k : F} {rest : List UInt8} {Av Ak Ar : Option Addr} {cv ck cr : Nat} (hf : Fin w w3 W) (hg : w.grownBy w3 (some R)) (hr : Rd w3 R st c') (hR : R < w.heap.size) (h2 : w.heap.size < w2.heap.size)
    (hp : ∀ x, p x → oldB w R x) (hn0 : Av = none → cv = 0) (hv : SeesP w3 (newB w2 w3) Av (Us v)) (hk : SeesF w3 (newB w2 w3) Ak k) (hrest : SeesP w3 p Ar (Us rest)) (hcr : rest.length ≤ cr) :
    ObjIs w R p st (.ok (t, v, k, rest, c')) (.returned (.tuple #[.agg #[.int .i64 t, .slice Av v.length cv, .slice Ak k.len ck], .slice Ar rest.length cr, .int .i64 0])) W := by
  have kp : ∀ q : Addr, newB w2 w3 q.block → W.cell? q = w3.cell? q := fun q hq => hf.cell hq.2 (by have := hq.1; omega)
  have im : ∀ b, newB w2 w3 b → newB w W b := fun b hb => ⟨by have := hb.1; omega, Nat.lt_of_lt_of_le hb.2 hf.1⟩
  exact ⟨hf.grown hg, Av, cv, Ak, ck, Ar, cr, rfl, hf.rd hr hR, hn0, (hv.keep kp).imp im, (hk.keep kp).imp im, hrest.keep fun q hq => hf.cell (Nat.lt_of_lt_of_le (hp _ hq).1 hg.size) (Nat.ne_of_lt (hp _ hq).1), hcr⟩

set_option maxHeartbeats 1000000 in
theorem obj_hdr_bad (st : Bool) (d : Int) (c : Nat) (l : List UInt8) (A : Option Addr) (cap : Nat) (w : World) (R : Nat) (p : Nat → Prop) (hp : ∀ x, p x → oldB w R x) (hl : l.length ≤ 4096) (hr : Rd w R st c) (hs : SeesP w p A (Us l)) (hE : hdrE l ≠ 0) :
    Calls Try.prog 63 #[.pointer (some ⟨R, 0, none⟩), .slice A l.length cap, .int .i64 d] w (ObjIs w R p st (.error (hdrE l))) := by
  have hR := lt_of_block hr
  obtain ⟨x, hx⟩ : ∃ x, x = hdrE l := ⟨_, rfl⟩
  have hH : ∀ u, Below w.heap.size w u → Calls Try.prog 51 #[.slice A l.length cap] u fun e w' => e = .returned (.tuple #[hdrV 0 0 0 0, .int .i64 x]) ∧ Below u.heap.size u w' := fun u hu => by
    have h := read_header A cap l u ((hs.keep fun q hq => hu.cell (hp _ hq).1).imp fun b hb => Nat.lt_of_lt_of_le (hp b hb).1 hu.size) (by omega)
    refine h.mono fun e w' hh => ⟨?_, hh.2⟩
    have h1 := hh.1
    rw [if_neg hE, ← hx] at h1
    exact h1
  unfold hdrV at hH
  have HH := Lib.hid hH
  rw [← hx] at hE ⊢
  have HX := Lib.hid (show x ≠ 0 ∧ Rd w R st c from ⟨hE, hr⟩)
  have d1 : (x != 0) = true := by simpa using hE
  have d2 : (x == 0) = false := by simpa using hE
  clear hH hx hE hs hr
  go_enter Try.func63, Try.ntmps63
  go_wp2_with fail
  refine (HH.out _ ((Below.refl _ _).alloc (Nat.le_refl _) _)).mono ?_
  rintro e w1 ⟨rfl, hb1⟩
  have b6 : w1.heap[w.heap.size]? = some (.cells #[.int .i64 0, .slice none 0 0, .slice none 0 0] 32 (0, 0)) := (hb1.block w.heap.size (by simp)).trans (heap_alloc_new w _)
  have hb := below_on ((Below.refl _ _).alloc (Nat.le_refl _) (.cells #[.int .i64 0, .slice none 0 0, .slice none 0 0] 32)) (hb1.mono (Nat.le_refl _))
  have q0 := cell_of_row w1 w.heap.size 0 _ _ _ b6
  have q1 := cell_of_row w1 w.heap.size 1 _ _ _ b6
  have q2 := cell_of_row w1 w.heap.size 2 _ _ _ b6
  have r0 := frozen_of_row w1 w.heap.size 0 _ _ b6
  have r1 := frozen_of_row w1 w.heap.size 1 _ _ b6
  have r2 := frozen_of_row w1 w.heap.size 2 _ _ b6
  simp only [List.getElem?_toArray, List.getElem?_cons_succ, List.getElem?_cons_zero] at q0 q1 q2
  have H6 := Lib.hid (show _ ∧ _ from ⟨b6, hb⟩)
  have hsz : w.heap.size < w1.heap.size := lt_of_block b6
  clear b6 hb1 hb
  go_wp2_with fail
  refine bodyPost_ret (ret_cell_tmp2 rfl _ _ _ _ _ _ _ rfl (block_alloc (block_set (block_set (block_set H6.out.1 _) _) _) _) Try.underlying32 rfl info_nodeS) rfl ?_
  exact obj_err HX.out.1 ((Fin.set w w1 _ _ _).alloc _) (grown_below H6.out.2) (HX.out.2.grown H6.out.2) hR

theorem hdr_yes {l : List UInt8} {A : Option Addr} {cap : Nat} {w : World} {R : Nat} {p : Nat → Prop} (hp : ∀ x, p x → oldB w R x) (hl : l.length ≤ 4096) (hs : SeesP w p A (Us l)) (hE : hdrE l = 0) {t f n s : Nat} (h1 : tagV l = t) (h2 : hdrF l = f) (h3 : hdrN l = n) (h4 : hdrS l = s) :
    ∀ u, Below w.heap.size w u → Calls Try.prog 51 #[.slice A l.length cap] u fun e w' => e = .returned (.tuple #[.agg #[.int .i64 t, .int .u8 f, .int .i64 n, .int .i64 s], .int .i64 0]) ∧ Below u.heap.size u w' := fun u hu => by
  have h := read_header A cap l u ((hs.keep fun q hq => hu.cell (hp _ hq).1).imp fun b hb => Nat.lt_of_lt_of_le (hp b hb).1 hu.size) (by omega)
  refine h.mono fun e w' hh => ⟨?_, hh.2⟩
  have h5 := hh.1
  rw [if_pos hE, h1, h2, h3, h4] at h5
  exact h5
/-- what object's prefix is handed: the header's reading and the check -/
def Pre (w : World) (R : Nat) (st : Bool) (A : Option Addr) (ll cap : Nat) (d : Int) (t f n s c : Nat) (x : Int) : Prop :=
  (∀ u, Below w.heap.size w u → Calls Try.prog 51 #[.slice A ll cap] u fun e w' => e = .returned (.tuple #[.agg #[.int .i64 t, .int .u8 f, .int .i64 n, .int .i64 s], .int .i64 0]) ∧ Below u.heap.size u w') ∧
  (∀ u, Rd u R st c → Calls Try.prog 66 #[.pointer (some ⟨R, 0, none⟩), .agg #[.int .i64 t, .int .u8 f, .int .i64 n, .int .i64 s], .int .i64 d] u (AdmIs u R st x c)) ∧ Rd w R st c
theorem pre_of {l : List UInt8} {A : Option Addr} {cap : Nat} {w : World} {R : Nat} {p : Nat → Prop} {st : Bool} {c : Nat} {d : Int} (hp : ∀ x, p x → oldB w R x) (hl : l.length ≤ 4096) (hc : c ≤ 256) (hr : Rd w R st c) (hs : SeesP w p A (Us l)) (hE : hdrE l = 0) {t f n s : Nat} {x : Int} (h1 : tagV l = t) (h2 : hdrF l = f) (h3 : hdrN l = n) (h4 : hdrS l = s) (h5 : admE st t f n d c = x) :
    Pre w R st A l.length cap d t f n s c x := by
  have hra := hdr_range hE
  rw [h1, h2, h3] at hra
  refine ⟨hdr_yes hp hl hs hE h1 h2 h3 h4, fun u hu => ?_, hr⟩
  have h := rd_admit R st c t f n s d hra.1 hra.2.1 hra.2.2 hc u hu
  rw [h5] at h
  exact h

set_option maxHeartbeats 1000000 in
theorem obj_adm_bad (st : Bool) (d : Int) (c ll : Nat) (A : Option Addr) (cap : Nat) (w : World) (R : Nat) (p : Nat → Prop) (t f n s : Nat) (x : Int) (hP : Pre w R st A ll cap d t f n s c x) (hx : x ≠ 0) :
    Calls Try.prog 63 #[.pointer (some ⟨R, 0, none⟩), .slice A ll cap, .int .i64 d] w (ObjIs w R p st (.error x)) := by
  have hR := lt_of_block hP.2.2
  have HP := Lib.hid hP
  have HX := Lib.hid hx
  have d1 : (x != 0) = true := by simpa using hx
  clear hP hx
  go_enter Try.func63, Try.ntmps63
  go_wp2_with fail
  refine (HP.out.1 _ ((Below.refl _ _).alloc (Nat.le_refl _) _)).mono ?_
  rintro e w1 ⟨rfl, hb1⟩
  go_wp2_with fail
  refine (HP.out.2.1 _ (block_alloc ((hb1.block R (by simp; omega)).trans (block_alloc HP.out.2.2 _)) _)).mono ?_
  rintro e w2 ⟨rfl, hg, c', hrd, _⟩
  have H := Lib.hid (ObSt.mk' HP.out.2.2 hb1 hg hrd)
  have b6 := H.out.2.2.1
  have q0 := cell_of_row w2 w.heap.size 0 _ _ _ b6
  have q1 := cell_of_row w2 w.heap.size 1 _ _ _ b6
  have q2 := cell_of_row w2 w.heap.size 2 _ _ _ b6
  have r0 := frozen_of_row w2 w.heap.size 0 _ _ b6
  have r1 := frozen_of_row w2 w.heap.size 1 _ _ b6
  have r2 := frozen_of_row w2 w.heap.size 2 _ _ b6
  simp only [List.getElem?_toArray, List.getElem?_cons_succ, List.getElem?_cons_zero] at q0 q1 q2
  clear b6 hb1 hg hrd
  go_wp2_with fail
  refine bodyPost_ret (ret_cell_tmp2 rfl _ _ _ _ _ _ _ rfl (block_set (block_set (block_set H.out.2.2.1 _) _) _) Try.underlying32 rfl info_nodeS) rfl ?_
  exact obj_err HX.out (Fin.set w w2 _ _ _) H.out.1 H.out.2.1 hR

end Go.Proofs.Ytipmmclahngabaa
