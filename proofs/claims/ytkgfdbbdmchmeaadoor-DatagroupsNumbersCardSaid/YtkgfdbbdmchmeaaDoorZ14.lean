/-
  What is proved here: what the program's listToMark returns, where object returns what it should, for bytes that lie in memory.
-/
import Derived.Test.YtkgfdbbdmchmeaaDoorRows
import Derived.Test.YtkgfdbbdmchmeaaDoorZ0
import Derived.Test.YtkgfdbbdmchmeaaDoorZ9
import Derived.Test.YtkgfdbbdmchmeaaDoorZ13
import Derived.Deep.RegionWith
import Derived.Test.YtkgfdbbdmchmeaaDoorZ12
namespace Go.Proofs.YtkgfdbbdmchmeaaDoor
open Go.RowKit
set_option maxRecDepth 8000
def joinM (acc : F) : Except Int (F × List UInt8 × Nat) → Except Int (F × List UInt8 × Nat)
  | .error e => .error e
  | .ok (f, r, c) => .ok (acc.app f, r, c)
theorem loopM_short {ob : Nat → List UInt8 → Except Int ObR} {m c : Nat} {l : List UInt8} (h : l.length < 2) {acc : F} : joinM acc (loopM ob m c l) = .error 6 := by
  cases m with
  | zero => rfl
  | succ m => simp only [loopM]; rw [if_pos h]; rfl
theorem loopM_end {ob : Nat → List UInt8 → Except Int ObR} {m c : Nat} {l : List UInt8} (h : 2 ≤ l.length) (h2 : l.take 2 = [0, 0]) : loopM ob (m + 1) c l = .ok (.nil, l.drop 2, c) := by
  simp only [loopM]; rw [if_neg (by omega), if_pos h2]
theorem loopM_err {ob : Nat → List UInt8 → Except Int ObR} {m c : Nat} {l : List UInt8} (h : 2 ≤ l.length) (h2 : l.take 2 ≠ [0, 0]) {x : Int} (hx : ob c l = .error x) : loopM ob (m + 1) c l = .error x := by
  simp only [loopM]; rw [if_neg (by omega), if_neg h2, hx]
theorem loopM_ok {ob : Nat → List UInt8 → Except Int ObR} {m c : Nat} {l : List UInt8} (h : 2 ≤ l.length) (h2 : l.take 2 ≠ [0, 0]) {t : Int} {v : List UInt8} {k : F} {rest : List UInt8} {c' : Nat} (hx : ob c l = .ok (t, v, k, rest, c')) :
    loopM ob (m + 1) c l = joinM (.cons t v k .nil) (loopM ob m c' rest) := by
  simp only [loopM]; rw [if_neg (by omega), if_neg h2, hx]
  simp only
  cases loopM ob m c' rest with
  | error e => rfl
  | ok q2 => obtain ⟨f, r, c2⟩ := q2; rfl
theorem joinM_join (a b : F) (r : Except Int (F × List UInt8 × Nat)) : joinM a (joinM b r) = joinM (a.app b) r := by
  cases r with
  | error e => rfl
  | ok q => obtain ⟨f, r, c⟩ := q; simp only [joinM]; rw [F.app_assoc]
theorem joinM_nil (r : Except Int (F × List UInt8 × Nat)) : joinM .nil r = r := by
  cases r with
  | error e => rfl
  | ok q => obtain ⟨f, r, c⟩ := q; rfl
theorem take_two {l : List UInt8} (h : 2 ≤ l.length) : (l.take 2 = [0, 0]) ↔ ((l[0]'(by omega)).toNat = 0 ∧ (l[1]'(by omega)).toNat = 0) := by
  match l, h with
  | a :: b :: r, _ =>
    simp only [List.take_succ_cons, List.take_zero, List.getElem_cons_zero, List.getElem_cons_succ, List.cons.injEq, and_true]
    constructor
    · rintro ⟨rfl, rfl⟩; exact ⟨rfl, rfl⟩
    · rintro ⟨h1, h2⟩; exact ⟨UInt8.toNat_inj.1 h1, UInt8.toNat_inj.1 h2⟩
theorem sees_empty {w : World} {p : Nat → Prop} {A : Option Addr} {l : List UInt8} {k : Nat} (h : l.length ≤ k) : SeesP w p A (Us (l.drop k)) := .inl (by rw [List.drop_eq_nil_of_le h]; rfl)
theorem sees_drop {w : World} {p : Nat → Prop} {b o : Nat} {l : List UInt8} {k : Nat} (h : SeesP w p (some ⟨b, o, none⟩) (Us l)) (hk : k ≤ l.length) : SeesP w p (some ⟨b, o + k, none⟩) (Us (l.drop k)) := by
  rcases h with h | ⟨b2, o2, e, hp, hc⟩
  · have : l = [] := by simpa [Us] using h
    subst this
    exact .inl (by simp [Us])
  · injection e with e
    injection e with e1 e2
    subst e1 e2
    refine .inr ⟨b, o + k, rfl, hp, fun j hj => ?_⟩
    rw [Us_drop, List.length_drop] at hj
    rw [Nat.add_assoc, hc _ (by omega), Us_drop, List.getElem?_drop]
theorem sees_take {w : World} {p : Nat → Prop} {A : Option Addr} {l : List UInt8} {k : Nat} (h : SeesP w p A (Us l)) : SeesP w p A (Us (l.take k)) := by
  rcases h with h | ⟨b, o, e, hp, hc⟩
  · have : l = [] := by simpa [Us] using h
    subst this
    exact .inl (by simp [Us])
  · refine .inr ⟨b, o, e, hp, fun j hj => ?_⟩
    rw [Us_take, List.length_take] at hj
    rw [hc j (by omega), Us_take, List.getElem?_take, if_pos (by omega)]
end Go.Proofs.YtkgfdbbdmchmeaaDoor
namespace Go.Proofs.YtkgfdbbdmchmeaaDoor
open Go.RowKit
set_option maxRecDepth 8000
theorem info_u8s : (Tryd.prog.info? 5).map (·.size) = some 1 := by kernel_rfl
theorem info_nodeS : (Tryd.prog.info? 50).map (·.size) = some 3 := by kernel_rfl
set_option maxHeartbeats 400000 in
theorem clone_bytes (A : Option Addr) (l : List UInt8) (c : Nat) (w : World) (p : Nat → Prop) (hp : ∀ x, p x → x < w.heap.size) (hl : l.length ≤ 140737488351232) (hs : SeesP w p A (Us l)) :
    Calls Tryd.prog 81 #[.slice A l.length c] w fun e w' => ∃ g, e = .returned (.slice (some ⟨g, 0, none⟩) l.length l.length) ∧ SeesP w' (newB w w') (some ⟨g, 0, none⟩) (Us l) ∧ Below w.heap.size w w' := by
  obtain ⟨i0, hi, hz0, hz1, hz2⟩ := info_parts info_u8b
  have HS := Lib.hid (hs.imp hp)
  clear hs
  go_enter Tryd.func81, Tryd.ntmps81
  go_wp2_with (first | (at_make; refine wpList_make_full _ rfl _ _ 35 rfl w.heap.size 5 i0 (.int .u8 0) 1 Tryd.underlying35 hi hz0 hz1 _ _ _ _ l.length rfl rfl rfl rfl (by rw [hz2]; omega) (by unfold maxLen; omega) (Nat.le_refl _) ?_; intro w1 hown hgrow; have hb := (Below.refl w.heap.size w).grown hgrow (Nat.le_refl _) (by simp); have hsee := (show Sees w w.heap.size A (Us l) from HS.out).below hb) | (with_reducible refine wpList_copy_fill rfl (.tmp 7) (.tmp 8) 35 35 rfl 5 Tryd.underlying35 info_u8s w.heap.size w.heap.size l.length l.length _ rfl hown A l.length c w.heap.size (Us l) rfl (Us_length _) hsee (Us_one _) ?_; intro w2 ho hg))
  have hb2 := hb.grown hg hb.size (by simp)
  rw [List.take_of_length_le (by rw [Us_length]; exact Nat.le_refl _), List.drop_eq_nil_of_le (by simp [Us, Value.cells, toList_madeCells_one]), List.append_nil] at ho
  have hse := Sees.of_own ho
  have HF := Lib.hid (show SeesP w2 (newB w w2) (some ⟨w.heap.size, 0, none⟩) (Us l) ∧ Below w.heap.size w w2 from ⟨by
    rcases hse with h | ⟨b, o, e, hlt, hc⟩
    · exact .inl h
    · injection e with e
      injection e with e1 e2
      subst e1 e2
      exact .inr ⟨_, _, rfl, ⟨Nat.le_refl _, hlt⟩, hc⟩, hb2⟩)
  clear hb2 hse ho hg hown hgrow hb hsee
  go_wp2_with fail
  go_ret
  exact ⟨_, rfl, HF.out.1, HF.out.2⟩
def ObSt (w : World) (R : Nat) (st : Bool) (N t f n s c : Nat) (w2 : World) : Prop :=
  w.grownBy w2 (some R) ∧ Rd w2 R st c ∧ w2.heap[w.heap.size]? = some (.cells #[.int .i64 0, .slice none 0 0, .slice none 0 0] 50 (0, 0)) ∧
  w2.heap[N]? = some (.cells #[.int .i64 t, .int .u8 f, .int .i64 n, .int .i64 s] 90 (0, 0)) ∧ w.heap.size < N ∧ R < w.heap.size
theorem grown_block {a b : World} {R k : Nat} {o : Obj} (hg : a.grownBy b (some R)) (h : a.heap[k]? = some o) (hk : k ≠ R) : b.heap[k]? = some o :=
  (hg.block k (lt_of_block h) (by intro e; injection e with e; exact hk e)).trans h
theorem ObSt.grown {w w2 w3 : World} {R : Nat} {st : Bool} {N t f n s c c' : Nat} (h : ObSt w R st N t f n s c w2) (hg : w2.grownBy w3 (some R)) (hr : Rd w3 R st c') : ObSt w R st N t f n s c' w3 := by
  obtain ⟨h1, _, h3, h4, h5, h6⟩ := h
  exact ⟨grown_trans h1 hg, hr, grown_block hg h3 (by omega), grown_block hg h4 (by omega), h5, h6⟩
theorem ObSt.mk' {w w1 w2 : World} {R : Nat} {st : Bool} {t f n s c c' : Nat} (hr : Rd w R st c) (hb1 : Below (w.alloc (.cells #[.int .i64 0, .slice none 0 0, .slice none 0 0] 50)).heap.size (w.alloc (.cells #[.int .i64 0, .slice none 0 0, .slice none 0 0] 50)) w1)
    (hg : (w1.alloc (.cells #[.int .i64 t, .int .u8 f, .int .i64 n, .int .i64 s] 90)).grownBy w2 (some R)) (hr2 : Rd w2 R st c') : ObSt w R st w1.heap.size t f n s c' w2 := by
  have hR := lt_of_block hr
  have hs := hb1.size
  simp only [World.size_alloc] at hs
  refine ⟨?_, hr2, ?_, ?_, by omega, hR⟩
  · exact grown_trans (grown_below (below_on ((Below.refl _ _).alloc (Nat.le_refl _) _) (hb1.mono (Nat.le_refl _)))) (grown_trans (grown_alloc w1 _ (some R)) hg)
  · refine grown_block hg (block_alloc ?_ _) (by omega)
    exact (hb1.block w.heap.size (by simp)).trans (heap_alloc_new w _)
  · exact grown_block hg (heap_alloc_new w1 _) (by omega)
def Fin (w w3 W : World) : Prop := w3.heap.size ≤ W.heap.size ∧ (∀ k, k < w3.heap.size → k ≠ w.heap.size → W.heap[k]? = w3.heap[k]?) ∧ W.os = w3.os ∧ W.tape = w3.tape ∧ W.output = w3.output
theorem Fin.set (w w3 : World) (a b c : Value) : Fin w w3 (((w3.setCell ⟨w.heap.size, 0, none⟩ a).setCell ⟨w.heap.size, 1, none⟩ b).setCell ⟨w.heap.size, 2, none⟩ c) := by
  refine ⟨by simp, fun k _ hk => ?_, rfl, rfl, rfl⟩
  rw [Below.heap_setCell _ _ _ k hk, Below.heap_setCell _ _ _ k hk, Below.heap_setCell _ _ _ k hk]
theorem Fin.alloc {w w3 W : World} (h : Fin w w3 W) (o : Obj) : Fin w w3 (W.alloc o) := by
  obtain ⟨h1, h2, h3, h4, h5⟩ := h
  exact ⟨by simp; omega, fun k hk hk2 => (Below.heap_alloc W o k (by omega)).trans (h2 k hk hk2), h3, h4, h5⟩
theorem Fin.drewN {w w3 W : World} (h : Fin w w3 W) (n : Nat) : Fin w w3 (W.drewN n) := h
theorem Fin.cell {w w3 W : World} (h : Fin w w3 W) {q : Addr} (h1 : q.block < w3.heap.size) (h2 : q.block ≠ w.heap.size) : W.cell? q = w3.cell? q := World.cell?_of_block (h.2.1 _ h1 h2)
theorem Fin.grown {w w3 W : World} {R : Nat} (h : Fin w w3 W) (hg : w.grownBy w3 (some R)) : w.grownBy W (some R) := by
  obtain ⟨h2, h3, h4, h5, h6⟩ := h
  exact ⟨h4.trans hg.os, h5.trans hg.tape, h6.trans hg.output, Nat.le_trans hg.size h2, fun k hk hk2 => (h3 k (Nat.lt_of_lt_of_le hk hg.size) (Nat.ne_of_lt hk)).trans (hg.block k hk hk2)⟩
theorem Fin.rd {w w3 W : World} {R : Nat} {st : Bool} {c : Nat} (h : Fin w w3 W) (hr : Rd w3 R st c) (hR : R < w.heap.size) : Rd W R st c :=
  (h.2.1 R (lt_of_block hr) (by omega)).trans hr
theorem hdr_yes {l : List UInt8} {A : Option Addr} {cap : Nat} {w : World} {R : Nat} {p : Nat → Prop} (hp : ∀ x, p x → oldB w R x) (hl : l.length ≤ 4096) (hs : SeesP w p A (Us l)) (hE : hdrE l = 0) {t f n s : Nat} (h1 : tagV l = t) (h2 : hdrF l = f) (h3 : hdrN l = n) (h4 : hdrS l = s) :
    ∀ u, Below w.heap.size w u → Calls Tryd.prog 78 #[.slice A l.length cap] u fun e w' => e = .returned (.tuple #[.agg #[.int .i64 t, .int .u8 f, .int .i64 n, .int .i64 s], .int .i64 0]) ∧ Below u.heap.size u w' := fun u hu => by
  have h := read_header A cap l u ((hs.keep fun q hq => hu.cell (hp _ hq).1).imp fun b hb => Nat.lt_of_lt_of_le (hp b hb).1 hu.size) (by omega)
  refine h.mono fun e w' hh => ⟨?_, hh.2⟩
  have h5 := hh.1
  rw [if_pos hE, h1, h2, h3, h4] at h5
  exact h5
def Pre (w : World) (R : Nat) (st : Bool) (A : Option Addr) (ll cap : Nat) (d : Int) (t f n s c : Nat) (x : Int) : Prop :=
  (∀ u, Below w.heap.size w u → Calls Tryd.prog 78 #[.slice A ll cap] u fun e w' => e = .returned (.tuple #[.agg #[.int .i64 t, .int .u8 f, .int .i64 n, .int .i64 s], .int .i64 0]) ∧ Below u.heap.size u w') ∧
  (∀ u, Rd u R st c → Calls Tryd.prog 79 #[.pointer (some ⟨R, 0, none⟩), .agg #[.int .i64 t, .int .u8 f, .int .i64 n, .int .i64 s], .int .i64 d] u (AdmIs u R st x c)) ∧ Rd w R st c
theorem pre_of {l : List UInt8} {A : Option Addr} {cap : Nat} {w : World} {R : Nat} {p : Nat → Prop} {st : Bool} {c : Nat} {d : Int} (hp : ∀ x, p x → oldB w R x) (hl : l.length ≤ 4096) (hc : c ≤ 256) (hr : Rd w R st c) (hs : SeesP w p A (Us l)) (hE : hdrE l = 0) {t f n s : Nat} {x : Int} (h1 : tagV l = t) (h2 : hdrF l = f) (h3 : hdrN l = n) (h4 : hdrS l = s) (h5 : admE st t f n d c = x) :
    Pre w R st A l.length cap d t f n s c x := by
  have hra := hdr_range hE
  rw [h1, h2, h3] at hra
  refine ⟨hdr_yes hp hl hs hE h1 h2 h3 h4, fun u hu => ?_, hr⟩
  have h := rd_admit R st c t f n s d hra.1 hra.2.1 hra.2.2 hc u hu
  rw [h5] at h
  exact h
end Go.Proofs.YtkgfdbbdmchmeaaDoor
namespace Go.Proofs.YtkgfdbbdmchmeaaDoor
open Go.RowKit
set_option maxRecDepth 8000
set_option linter.unusedVariables false
def obM (t : Int) : Except Int (F × List UInt8 × Nat) → Except Int ObR
  | .error e => .error e
  | .ok (kf, rest, c') => .ok (t, [], kf, rest, c')
def obL (t : Int) (rest : List UInt8) : Except Int (F × Nat) → Except Int ObR
  | .error e => .error e
  | .ok (kf, c') => .ok (t, [], kf, rest, c')
end Go.Proofs.YtkgfdbbdmchmeaaDoor
namespace Go.Proofs.YtkgfdbbdmchmeaaDoor
open Go.RowKit
set_option maxRecDepth 8000
set_option linter.unusedVariables false
theorem ObSt.drewN {w w2 : World} {R : Nat} {st : Bool} {N t f n s c : Nat} (h : ObSt w R st N t f n s c w2) (k : Nat) : ObSt w R st N t f n s c (w2.drewN k) :=
  ⟨⟨h.1.os, h.1.tape, h.1.output, h.1.size, h.1.block⟩, h.2.1, h.2.2.1, h.2.2.2.1, h.2.2.2.2⟩
def CloneC (p : Nat → Prop) (bs : List UInt8) (n : Nat) (w2 : World) : Prop := ∀ (u : World) (A : Option Addr) (cap : Nat), Below w2.heap.size w2 u → SeesP w2 p A (Us bs) →
  Calls Tryd.prog 81 #[.slice A n cap] u fun e w' => ∃ g, e = .returned (.slice (some ⟨g, 0, none⟩) n n) ∧ SeesP w' (newB u w') (some ⟨g, 0, none⟩) (Us bs) ∧ Below u.heap.size u w'
theorem cloneC {p : Nat → Prop} {bs : List UInt8} {n : Nat} {w2 : World} (hn : n = bs.length) (hl : n ≤ 4096) (hp : ∀ x, p x → x < w2.heap.size) : CloneC p bs n w2 := by
  subst hn
  intro u A cap hu hs
  exact clone_bytes A bs cap u p (fun x hx => Nat.lt_of_lt_of_le (hp x hx) hu.size) (by omega) (hs.keep fun q hq => hu.cell (hp _ hq))
end Go.Proofs.YtkgfdbbdmchmeaaDoor
namespace Go.Proofs.YtkgfdbbdmchmeaaDoor
open Go.RowKit
set_option maxRecDepth 8000
set_option linter.unusedVariables false
theorem sees_some {w : World} {p : Nat → Prop} {A : Option Addr} {l : List UInt8} (h : SeesP w p A (Us l)) (hl : 0 < l.length) : ∃ b o, A = some ⟨b, o, none⟩ := by
  obtain ⟨b, o, e, _⟩ := sees_byte h hl
  exact ⟨b, o, e⟩
def parse (st : Bool) (l : List UInt8) : Except Int (F × Nat) := if 4096 < l.length then .error 2 else loopL (pObj st 8) l.length 0 l
end Go.Proofs.YtkgfdbbdmchmeaaDoor
namespace Go.Proofs.YtkgfdbbdmchmeaaDoor
open Go.RowKit
set_option maxRecDepth 8000
set_option linter.unusedVariables false
theorem ofNat_mod (n : Nat) : (UInt8.ofNat n).toNat = n % 256 := by rw [UInt8.toNat_ofNat']
end Go.Proofs.YtkgfdbbdmchmeaaDoor
namespace Go.Proofs.YtkgfdbbdmchmeaaDoor
open Go.RowKit
set_option maxRecDepth 8000
set_option linter.unusedVariables false
def HdOk (st : Bool) (t : Int) (n : Nat) (hd tl : List UInt8) : Prop :=
  (tl = [] ∧ hd = [UInt8.ofNat n] ∧ n ≤ 127) ∨
  (tl = [] ∧ ∃ m dg, hd = UInt8.ofNat (128 + m) :: dg ∧ dg.length = m ∧ 1 ≤ m ∧ m ≤ 4 ∧ numL_Hdr dg = n ∧ (st = true → shortB (128 + m) n = true)) ∨
  (st = false ∧ hd = [128] ∧ tl = [0, 0] ∧ consB t = true)
def LooseOf (st : Bool) : F → List UInt8 → Prop
  | .nil, b => b = []
  | .cons t v k r, b => ∃ ck br hd tl, LooseOf st k ck ∧ LooseOf st r br ∧ HdOk st t (v.length + ck.length) hd tl ∧ b = tagL t.toNat ++ (hd ++ (v ++ ck ++ (tl ++ br)))
theorem LooseOf.app {st : Bool} {g : F} {bg : List UInt8} (hg : LooseOf st g bg) : ∀ {f : F} {bf : List UInt8}, LooseOf st f bf → LooseOf st (f.app g) (bf ++ bg)
  | .nil, _, h => by cases h; exact hg
  | .cons t v k r, _, ⟨ck, br, hd, tl, h1, h2, h3, e⟩ => ⟨ck, br ++ bg, hd, tl, h1, LooseOf.app hg h2, h3, by rw [e]; simp only [List.append_assoc]⟩
def F.fit : F → Nat → Prop
  | .nil, _ => True
  | .cons t v k r, m => 1 ≤ m ∧ validB t = true ∧ (consB t = true → v = []) ∧ (consB t = false → k = .nil) ∧ v.length ≤ 4096 ∧ k.fit (m - 1) ∧ r.fit m
end Go.Proofs.YtkgfdbbdmchmeaaDoor
