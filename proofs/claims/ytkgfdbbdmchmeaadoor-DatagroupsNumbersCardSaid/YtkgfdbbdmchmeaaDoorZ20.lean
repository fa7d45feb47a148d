/-
  What is proved here: plain definitions of a zone as a value and of the places of the fields in its lines, without any memory; plain facts on them.
-/
import Derived.Test.YtkgfdbbdmchmeaaDoorRows
import Derived.Test.YtkgfdbbdmchmeaaDoorZ0
import Derived.Test.YtkgfdbbdmchmeaaDoorZ10
import Derived.Test.YtkgfdbbdmchmeaaDoorZ18
import Derived.Test.YtkgfdbbdmchmeaaDoorZ19
namespace Go.Proofs.YtkgfdbbdmchmeaaDoor
open Go.RowKit
structure Zn where
  fm : Int
  kd : List UInt8
  st : List UInt8
  su : List UInt8
  gi : List UInt8
  nu : List UInt8
  na : List UInt8
  bi : List UInt8
  sx : List UInt8
  ex : List UInt8
  op : List UInt8
  se : List UInt8
deriving DecidableEq
def Zn.val (z : Zn) : Value := .agg #[.int .i64 z.fm, .string (S z.kd), .string (S z.st), .string (S z.su), .string (S z.gi), .string (S z.nu), .string (S z.na), .string (S z.bi), .string (S z.sx), .string (S z.ex), .string (S z.op), .string (S z.se)]
def Zn.zero : Zn := ⟨0, [], [], [], [], [], [], [], [], [], [], []⟩
end Go.Proofs.YtkgfdbbdmchmeaaDoor
namespace Go.Proofs.YtkgfdbbdmchmeaaDoor
open Go.RowKit
set_option linter.unusedVariables false
theorem size_i : (Tryd.prog.info? 3).map (·.size) = some 1 := by kernel_rfl
end Go.Proofs.YtkgfdbbdmchmeaaDoor
namespace Go.Proofs.YtkgfdbbdmchmeaaDoor
open Go.RowKit
set_option linter.unusedVariables false
set_option linter.unusedSimpArgs false
theorem u8_wrap (n : Nat) : Value.int .u8 (IntKind.u8.wrap (n : Int)) = U (UInt8.ofNat n) := by
  rw [IntKind.wrap_u8']
  simp [U]
theorem cv_u8 (n : Nat) (w : World) : (convert 3 5 (.int .i64 (n : Int))).run Tryd.prog w = .ok (U (UInt8.ofNat n)) w := by
  rw [← u8_wrap]
  kernel_rfl
theorem bsu1 (u : UInt8) : Tryd.prog.builtSlice 5 1 [(0, U u)] = some #[U u] := by kernel_rfl
theorem ag_s : ∀ w, (isAgg 35).run Tryd.prog w = .ok false w := fun w => by kernel_rfl
def BytF (wr : World) (v : List UInt8) (n : Nat) (u : Value) (c : World) : Prop := ∃ A cv, u = .slice A n cv ∧ ((A = none → cv = 0) ∧ n ≤ cv) ∧ SeesP c (newB wr c) A (Us v)
theorem BytF.lit {w c c' : World} {g n : Nat} {v : List UInt8} {vs : List Value} (hf : Fresh c c' g) (hr : RowV c' g vs) (hv : vs = Us v) (hn : v.length = n) (hs : w.heap.size ≤ c.heap.size) : BytF w v n (.slice (some ⟨g, 0, none⟩) n n) c' :=
  ⟨_, n, rfl, ⟨fun h => (by cases h), Nat.le_refl _⟩, .inr ⟨g, 0, rfl, ⟨by rw [hf.1]; exact hs, hr.lt⟩, fun j hj => by rw [Nat.zero_add, hr.cell, hv]⟩⟩
theorem own_newB {w w' : World} {e : TypeId} {v : Value} {n : Nat} {l : List UInt8} (h : w'.ownsRow w.heap.size e 1 v n (Us l)) : ∃ A c, v = .slice A n c ∧ ((A = none → c = 0) ∧ n ≤ c) ∧ SeesP w' (newB w w') A (Us l) := by
  rcases h.2 with ⟨rfl, rfl⟩ | ⟨g, cap, cur, rfl, hb, hh, hn, hm, hs, ht⟩
  · have := h.1
    simp [Us_length] at this
    subst this
    exact ⟨none, 0, rfl, ⟨fun _ => rfl, Nat.le_refl _⟩, .inl rfl⟩
  · refine ⟨_, cap, rfl, ⟨fun h => (by cases h), hn⟩, .inr ⟨g, 0, rfl, ⟨hb, lt_of_block hh⟩, fun j hj => ?_⟩⟩
    have hl := h.1
    rw [Nat.zero_add, cell_of_row w' g j cur _ (0, 0) hh, ← ht, List.getElem?_take, if_pos (by omega), Array.getElem?_toList]
set_option maxHeartbeats 1600000 in
theorem r_prim (t : Int) (v : List UInt8) (n : Nat) (hn : v.length = n) (hm : n ≤ 140737488351232) (A : Option Addr) (c : Nat) (h0 : A = none → c = 0) (w : World) (hs : SeesP w (· < w.heap.size) A (Us v)) :
    Calls Tryd.prog 33 #[.int .i64 t, .slice A n c] w (PrimIs w t v n) := by
  obtain ⟨i0, hi, hz0, hz1, hz2⟩ := info_parts info_u8b
  have HS := Lib.hid (show _ ∧ _ ∧ _ from ⟨hs, hn, h0⟩)
  have HB := Lib.hid (Below.refl w.heap.size w)
  clear hs hn h0
  go_enter Tryd.func33, Tryd.ntmps33
  go_wp2_with (first
    | ((with_reducible refine at_alloc_ (d := 4) ?_); refine wpList_alloc_v (op := ⟨some 4, _, _, _, _, _⟩) rfl 50 rfl zerN info_n_B5 ?_; intro g4 w4 hf hr; have H4 := Lib.hid (show _ ∧ _ ∧ _ ∧ _ from ⟨hf.bl HB.out, hr, hf.ge HB.out, hf⟩); clear hf hr)
    | ((with_reducible refine at_call_ (d := 7) ?_); go_must (refine app_bytes rfl (.const (.slice none 0 0)) (.tmp 6) 35 rfl w4.heap.size 5 i0 (.int .u8 0) Tryd.underlying35 hi hz0 hz1 hz2 rfl (.slice none 0 0) 0 [] rfl (World.ownsRow_nil _ _ _ _) A c v _ (by rw [HS.out.2.1]; rfl) HS.out.2.2 (HS.out.1.on2 H4.out.1) (by unfold maxLen; rw [HS.out.2.1]; omega) (by rw [HS.out.2.1]; omega) (Nat.le_refl _) ?_); intro v7 w7 ho hg; rw [Nat.zero_add, HS.out.2.1, List.nil_append] at ho; obtain ⟨A7, c7, rfl, h7, s7⟩ := own_newB ho; have H7 := Lib.hid (show _ ∧ _ ∧ _ from ⟨h7, s7, grown_new hg⟩); clear ho hg h7 s7)
    | ((with_reducible refine at_store_ (i := 4) ?_); go_must (refine wpList_store_v rfl 50 (.tmp 4) (.tmp 8) rfl g4 zerN (nodV t A7 n c7 none 0 0) rfl rfl (H4.out.2.1.on H7.out.2.2) rfl (nodV_one _ _ _ _ _ _ _) size_n ?_); intro w8 hw hr; have H8 := Lib.hid (show _ ∧ _ from ⟨hw, hr⟩); clear hw hr))
  have hlt := H4.out.2.1.lt
  exact bodyPost_ret (results_v rfl _ _ g4 (nodV t A7 n c7 none 0 0) _ rfl H8.out.2 Tryd.underlying50 rfl size_n) rfl ⟨A7, c7, rfl, H7.out.1, (H7.out.2.1.keep fun q hq => World.cell?_of_block (H8.out.1.2.2.2.2 _ (by have := hq.1; omega))).imp fun b hb => ⟨Nat.le_trans H4.out.1.size hb.1, by rw [H8.out.1.2.2.2.1]; exact hb.2⟩, Wr.bl (below_on H4.out.1 H7.out.2.2) H8.out.1 H4.out.2.2.1⟩
set_option maxHeartbeats 800000 in
theorem r_cons (t : Int) (A : Option Addr) (lk ck : Nat) (w : World) :
    Calls Tryd.prog 31 #[.int .i64 t, .slice A lk ck] w fun e w' => e = .returned (.agg (nodV t none 0 0 A lk ck).toArray) ∧ Below w.heap.size w w' := by
  have HB := Lib.hid (Below.refl w.heap.size w)
  go_enter Tryd.func31, Tryd.ntmps31
  go_wp2_with (first
    | ((with_reducible refine at_alloc_ (d := 4) ?_); refine wpList_alloc_v (op := ⟨some 4, _, _, _, _, _⟩) rfl 50 rfl zerN info_n_B5 ?_; intro g4 w4 hf hr; have H4 := Lib.hid (show _ ∧ _ ∧ _ ∧ _ from ⟨hf.bl HB.out, hr, hf.ge HB.out, hf⟩); clear hf hr)
    | ((with_reducible refine at_store_ (i := 4) ?_); go_must (refine wpList_store_v rfl 50 (.tmp 4) (.tmp 7) rfl g4 zerN (nodV t none 0 0 A lk ck) rfl rfl H4.out.2.1 rfl (nodV_one _ _ _ _ _ _ _) size_n ?_); intro w8 hw hr; have H8 := Lib.hid (show _ ∧ _ from ⟨hw, hr⟩); clear hw hr))
  exact bodyPost_ret (results_v rfl _ _ g4 (nodV t none 0 0 A lk ck) _ rfl H8.out.2 Tryd.underlying50 rfl size_n) rfl ⟨rfl, Wr.bl H4.out.1 H8.out.1 H4.out.2.2.1⟩
theorem SeesN.fresh {w c c' : World} {g : Nat} {f : F} {cs : List Value} (hf : Fresh c c' g) (hr : RowV c' g cs) (hs : w.heap.size ≤ c.heap.size) (h : HoldsN c' (newB w c') f cs) : SeesN c' (newB w c') (some ⟨g, 0, none⟩) f :=
  SeesN.block hr (by rw [hf.1]; exact hs) h
end Go.Proofs.YtkgfdbbdmchmeaaDoor
namespace Go.Proofs.YtkgfdbbdmchmeaaDoor
open Go.RowKit
set_option linter.unusedVariables false
set_option linter.unusedSimpArgs false
theorem fa_n0 (g : Nat) (w : World) : (Instr.fieldAt 50 (.pointer (some ⟨g, 0, none⟩)) 0).run Tryd.prog w = .ok (.pointer (some ⟨g, 0, none⟩)) w := by kernel_rfl
theorem fa_n1 (g : Nat) (w : World) : (Instr.fieldAt 50 (.pointer (some ⟨g, 0, none⟩)) 1).run Tryd.prog w = .ok (.pointer (some ⟨g, 1, none⟩)) w := by kernel_rfl
theorem ix_nod (g o n c k : Nat) (hk : k < n) (w : World) : (Instr.indexAt 31 (.slice (some ⟨g, o, none⟩) n c) (.int .i64 (k : Int))).run Tryd.prog w = .ok (.pointer (some ⟨g, o + k * 3, none⟩)) w := by
  have h0 : (k : Int) < (n : Int) := by omega
  have h1 : (0 : Int) ≤ (k : Int) := by omega
  simp [go_sem, Addr.add, h0, h1]
end Go.Proofs.YtkgfdbbdmchmeaaDoor
namespace Go.Proofs.YtkgfdbbdmchmeaaDoor
open Go.RowKit
set_option linter.unusedVariables false
set_option linter.unusedSimpArgs false
def TmpIs (o : Option Tm) (w : World) (e : Ending) (w' : World) : Prop := ∃ cs : List Value, cs.length = 7 ∧ (∀ u ∈ cs, u.oneCell' = true) ∧ e = .returned (.tuple #[.agg cs.toArray, .bool o.isSome]) ∧
  (∀ x, o = some x → ∃ A c, cs = x.cs A c ∧ ((A = none → c = 0) ∧ x.d.length ≤ c) ∧ SeesP w' (newB w w') A (Us x.d)) ∧ Below w.heap.size w w'
theorem TmpIs.bad {o : Option Tm} {w w' : World} (h : o = none) (hb : Below w.heap.size w w') : TmpIs o w (.returned (.tuple #[.agg zerT.toArray, .bool false])) w' :=
  ⟨zerT, rfl, cs_one default none 0, by rw [h]; rfl, fun x hx => (by rw [h] at hx; cases hx), hb⟩
end Go.Proofs.YtkgfdbbdmchmeaaDoor
namespace Go.Proofs.YtkgfdbbdmchmeaaDoor
open Go.RowKit
set_option linter.unusedVariables false
set_option linter.unusedSimpArgs false
def OlW (w1 : World) (n1 : List Value) (b : Nat) (S : Nat → Bool) (c : World) : Prop := Below w1.heap.size w1 c ∧ (S 11 = true → w1.heap.size ≤ b ∧ RowV c b (if S 12 = true then n1 else zerN))
theorem OlW.keep {w1 c : World} {n1 : List Value} {b i : Nat} {S : Nat → Bool} (h : OlW w1 n1 b S c) (h1 : 11 ≠ i) (h2 : 12 ≠ i) : OlW w1 n1 b (fun j => S j || j == i) c := by
  obtain ⟨g1, g2⟩ := h
  refine ⟨g1, fun hS => ?_⟩
  have e1 : (S 11 || 11 == i) = S 11 := by simp [h1]
  have e2 : (S 12 || 12 == i) = S 12 := by simp [h2]
  show _ ∧ RowV c b (if (S 12 || 12 == i) = true then n1 else zerN)
  rw [e2]
  exact g2 (by rw [← e1]; exact hS)
def LstIs (o : Option (List Tm)) (w : World) (e : Ending) (w' : World) : Prop := (o = none → e = .returned (.tuple #[.slice none 0 0, .bool false])) ∧ (∀ L, o = some L → ∃ A c, e = .returned (.tuple #[.slice A L.length c, .bool true]) ∧ SeesT w' (newB w w') A L) ∧ Below w.heap.size w w'
theorem LstIs.bad {o : Option (List Tm)} {w w' : World} (h : o = none) (hb : Below w.heap.size w w') : LstIs o w (.returned (.tuple #[.slice none 0 0, .bool false])) w' :=
  ⟨fun _ => rfl, fun L hL => (by rw [h] at hL; cases hL), hb⟩
def RowT (w c : World) (gT m : Nat) (vs : List Value) (L : List Tm) : Prop := RowV c gT vs ∧ vs.length = m * 7 ∧ w.heap.size ≤ gT ∧ ∀ k x, L[k]? = some x → TmIn c (fun b => newB w c b ∧ b ≠ gT) vs k x
theorem RowT.on {w c c' : World} {gT m : Nat} {vs : List Value} {L : List Tm} (h : RowT w c gT m vs L) (hb : Below c.heap.size c c') : RowT w c' gT m vs L :=
  ⟨h.1.on hb, h.2.1, h.2.2.1, fun k x hx => ((h.2.2.2 k x hx).keep fun q hq => hb.cell hq.1.2).imp fun b hq => ⟨⟨hq.1.1, Nat.lt_of_lt_of_le hq.1.2 hb.size⟩, hq.2⟩⟩
def spl (vs : List Value) (o : Nat) (us : List Value) : List Value := vs.take o ++ us ++ vs.drop (o + us.length)
theorem spl_len {vs us : List Value} {o : Nat} (h : o + us.length ≤ vs.length) : (spl vs o us).length = vs.length := by
  simp [spl]; omega
theorem RowT.put {w c c' : World} {gT m j : Nat} {vs : List Value} {L : List Tm} {x : Tm} {A : Option Addr} {cd : Nat} (h : RowT w c gT m vs L) (hL : L.length = j) (hj : j < m) (hw : Wr c c' gT) (hr : RowV c' gT (spl vs (j * 7) (x.cs A cd)))
    (h0 : (A = none → cd = 0) ∧ x.d.length ≤ cd) (hd : SeesP c (fun b => newB w c b ∧ b ≠ gT) A (Us x.d)) : RowT w c' gT m (spl vs (j * 7) (x.cs A cd)) (L ++ [x]) := by
  obtain ⟨h1, h2, h3, h4⟩ := h
  have hlen : j * 7 + (x.cs A cd).length ≤ vs.length := by rw [h2]; simp [Tm.cs]; omega
  have kp : ∀ q : Addr, (newB w c q.block ∧ q.block ≠ gT) → c'.cell? q = c.cell? q := fun q hq => World.cell?_of_block (hw.2.2.2.2 _ hq.2)
  have ip : ∀ b, (newB w c b ∧ b ≠ gT) → newB w c' b ∧ b ≠ gT := fun b hb => ⟨⟨hb.1.1, by rw [hw.2.2.2.1]; exact hb.1.2⟩, hb.2⟩
  have el : (x.cs A cd).length = 7 := rfl
  refine ⟨hr, by rw [spl_len hlen, h2], h3, fun k y hy => ?_⟩
  rw [List.getElem?_append] at hy
  split at hy
  · rename_i hk
    obtain ⟨A', c1, g0, g1, g2⟩ := h4 k y hy
    refine ⟨A', c1, g0, (g1.keep kp).imp ip, fun i hi => ?_⟩
    rw [← g2 i hi]
    unfold spl
    rw [List.append_assoc, List.getElem?_append, if_pos (by rw [List.length_take]; omega), List.getElem?_take, if_pos (by omega)]
  · rename_i hk
    have hk0 : k - L.length = 0 := by
      have := (List.getElem?_eq_some_iff.1 hy).1
      simpa using this
    rw [hk0] at hy
    injection hy with hy
    subst hy
    refine ⟨A, cd, h0, (hd.keep kp).imp ip, fun i hi => ?_⟩
    have ek : k = j := by omega
    subst ek
    unfold spl
    rw [List.append_assoc, List.getElem?_append, if_neg (by rw [List.length_take]; omega), List.getElem?_append, if_pos (by rw [List.length_take, el]; omega)]
    congr 1
    rw [List.length_take]; omega
theorem RowT.sees {w c : World} {gT m : Nat} {vs : List Value} {L : List Tm} (h : RowT w c gT m vs L) (hL : L.length = m) : SeesT c (newB w c) (some ⟨gT, 0, none⟩) L := by
  obtain ⟨h1, h2, h3, h4⟩ := h
  exact ⟨vs, .inr ⟨gT, 0, rfl, ⟨h3, h1.lt⟩, fun j hj => by rw [Nat.zero_add, h1.cell]⟩, by rw [h2, hL]; omega, fun k x hx => (h4 k x hx).imp fun b hb => hb.1⟩
end Go.Proofs.YtkgfdbbdmchmeaaDoor
namespace Go.Proofs.YtkgfdbbdmchmeaaDoor
open Go.RowKit
set_option linter.unusedVariables false
set_option linter.unusedSimpArgs false
def DecIs (f : F) (w : World) (e : Ending) (w' : World) : Prop := ∃ A c, e = .returned (.tuple #[.slice A (decV f).length c, .int .i64 (decE f)]) ∧ SeesT w' (newB w w') A (decV f) ∧ Below w.heap.size w w'
end Go.Proofs.YtkgfdbbdmchmeaaDoor
namespace Go.Proofs.YtkgfdbbdmchmeaaDoor
open Go.RowKit
set_option linter.unusedVariables false
set_option linter.unusedSimpArgs false
structure VarSp where
  al : Nat
  st : Nat
  z : List Value
  u : List Value
def VarW (w1 : World) (Sp : List VarSp) (b : Nat → Nat) (S : Nat → Bool) (c : World) : Prop :=
  Below w1.heap.size w1 c ∧ (∀ s ∈ Sp, S s.al = true → w1.heap.size ≤ b s.al ∧ RowV c (b s.al) (if S s.st = true then s.u else s.z)) ∧ (∀ s ∈ Sp, ∀ s' ∈ Sp, s.al ≠ s'.al → S s.al = true → S s'.al = true → b s.al ≠ b s'.al)
def VarOk (Sp : List VarSp) : Bool := Sp.all fun s => s.al != s.st && Sp.all fun s' => s.al != s'.st && s.st != s'.al && (s.al == s'.al) == (s.st == s'.st)
section
variable {w1 c c' : World} {Sp : List VarSp} {b : Nat → Nat} {S : Nat → Bool} {i : Nat}
theorem VarW.start (w1 : World) (Sp : List VarSp) (b : Nat → Nat) : VarW w1 Sp b (fun _ => false) w1 := ⟨Below.refl _ _, fun s _ h => (by cases h), fun s _ s' _ _ h => (by cases h)⟩
theorem VarW.on (h : VarW w1 Sp b S c) (hb : Below c.heap.size c c') : VarW w1 Sp b S c' :=
  ⟨below_on h.1 hb, fun s hs hS => ⟨(h.2.1 s hs hS).1, (h.2.1 s hs hS).2.on hb⟩, h.2.2⟩
theorem VarW.keep (h : VarW w1 Sp b S c) (hi : (Sp.all fun s => s.al != i && s.st != i) = true) : VarW w1 Sp b (fun j => S j || j == i) c := by
  rw [List.all_eq_true] at hi
  have ea : ∀ s ∈ Sp, (S s.al || s.al == i) = S s.al ∧ (S s.st || s.st == i) = S s.st := fun s hs => by
    have := hi s hs
    simp at this
    simp [this.1, this.2]
  refine ⟨h.1, fun s hs hS => ?_, fun s hs s' hs' hne h1 h2 => h.2.2 s hs s' hs' hne (by rw [← (ea s hs).1]; exact h1) (by rw [← (ea s' hs').1]; exact h2)⟩
  show _ ∧ RowV c (b s.al) (if (S s.st || s.st == i) = true then s.u else s.z)
  rw [(ea s hs).2]
  exact h.2.1 s hs (by rw [← (ea s hs).1]; exact hS)
theorem VarW.new {s0 : VarSp} {g : Nat} (hok : VarOk Sp = true) (h : VarW w1 Sp b S c) (h0 : s0 ∈ Sp) (hi : s0.al = i) (hst : S s0.st = false) (hf : Fresh c c' g) (hr : RowV c' g s0.z) (hz : ∀ s ∈ Sp, s.al = s0.al → s.z = s0.z) :
    VarW w1 Sp (fun j => if j = i then g else b j) (fun j => S j || j == i) c' := by
  subst hi
  unfold VarOk at hok
  rw [List.all_eq_true] at hok
  have key : ∀ s ∈ Sp, (s.st == s0.al) = false ∧ (s.al = s0.al → s.st = s0.st) := fun s hs => by
    have h1 := hok s hs
    simp only [Bool.and_eq_true, List.all_eq_true] at h1
    have h2 := h1.2 s0 h0
    refine ⟨by simpa using h2.1.2, fun e => ?_⟩
    have h3 := h2.2
    simp [e] at h3
    first | exact h3 | exact h3.symm
  refine ⟨below_on h.1 hf.bw, fun s hs hS => ?_, fun s hs s' hs' hne h1 h2 => ?_⟩
  · show w1.heap.size ≤ (if s.al = s0.al then g else b s.al) ∧ RowV c' (if s.al = s0.al then g else b s.al) (if (S s.st || s.st == s0.al) = true then s.u else s.z)
    rw [(key s hs).1, Bool.or_false]
    by_cases e : s.al = s0.al
    · rw [if_pos e, (key s hs).2 e, hst]
      simp only [Bool.false_eq_true, if_false]
      rw [hz s hs e]
      exact ⟨hf.ge h.1, hr⟩
    · rw [if_neg e]
      have hS' : S s.al = true := by simpa [e] using hS
      exact ⟨(h.2.1 s hs hS').1, (h.2.1 s hs hS').2.on hf.bw⟩
  · show (if s.al = s0.al then g else b s.al) ≠ (if s'.al = s0.al then g else b s'.al)
    by_cases e : s.al = s0.al
    · have e' : s'.al ≠ s0.al := fun h => hne (e.trans h.symm)
      rw [if_pos e, if_neg e']
      have hS' : S s'.al = true := by simpa [e'] using h2
      exact ((h.2.1 s' hs' hS').2.ne hf).symm
    · rw [if_neg e]
      have hS' : S s.al = true := by simpa [e] using h1
      by_cases e' : s'.al = s0.al
      · rw [if_pos e']
        exact (h.2.1 s hs hS').2.ne hf
      · rw [if_neg e']
        have hS2 : S s'.al = true := by simpa [e'] using h2
        exact h.2.2 s hs s' hs' hne hS' hS2
theorem VarW.row {s0 : VarSp} (h : VarW w1 Sp b S c) (h0 : s0 ∈ Sp) (ha : S s0.al = true) (hst : S s0.st = false) : RowV c (b s0.al) s0.z := by
  have := (h.2.1 s0 h0 ha).2
  rw [hst] at this
  simpa using this
end
end Go.Proofs.YtkgfdbbdmchmeaaDoor
