/-
  What is proved here: the makers' Light and Roll: how long a list is; dice of their own over a list that came in.
-/
import Derived.Test.YtkgfdbbdmchmeaaDoorRows
import Derived.Test.YtkgfdbbdmchmeaaDoorZ0
import Derived.Test.YtkgfdbbdmchmeaaDoorZ11
import Derived.ProofKit
import Derived.OpenShut
import Derived.ShutString
import Derived.ChangeOld
import Derived.SizedLaws
import Derived.Test.YtkgfdbbdmchmeaaDoorZ6
import Derived.Laws.CopyOwn
namespace Go.Proofs.YtkgfdbbdmchmeaaDoor
open Go.RowKit
set_option linter.unusedVariables false
theorem made_light (A : Option Addr) (n c : Nat) (w : World) (hn : n ≤ 140737488351232) :
    Calls Tryd.prog 12 #[.slice A n c] w fun e w' => e = .returned (.bool (decide (n ≤ 400))) ∧ w' = w := by
  by_cases h : n ≤ 400
  · have d : decide ((n : Int) ≤ 400) = true := by simp; omega
    rw [decide_eq_true h]
    clear h
    go_enter Tryd.func12, Tryd.ntmps12
    go_wp2
    go_ret
    exact ⟨rfl, rfl⟩
  · have d : decide ((n : Int) ≤ 400) = false := by simp; omega
    rw [decide_eq_false h]
    clear h
    go_enter Tryd.func12, Tryd.ntmps12
    go_wp2
    go_ret
    exact ⟨rfl, rfl⟩
theorem made_roll (A : Option Addr) (c : Nat) (ls : List Int) (w : World) (hl : ls.length ≤ 140737488351232) (hr : ∀ x ∈ ls, -9223372036854775808 ≤ x ∧ x ≤ 9223372036854775807) (hs : SeesP w (· < w.heap.size) A (ls.map (Value.int .i64))) :
    Calls Tryd.prog 13 #[.slice A ls.length c] w fun e w' => e = .returned (.pointer (some ⟨w.heap.size, 0, none⟩)) ∧ DiceOk w' w.heap.size ∧ Below w.heap.size w w' := by
  have hd : DiceOk (w.alloc (.cells #[.slice A ls.length c, .int .i64 0] 47)) w.heap.size :=
    ⟨A, c, 0, ls, heap_alloc_new w _, Nat.zero_le _, hl, hr, hs.keep fun q hq => World.cell?_alloc_lt w _ q hq⟩
  have HD := Lib.hid hd
  clear hd hs hr
  go_enter Tryd.func13, Tryd.ntmps13
  go_wp2
  go_ret
  exact ⟨rfl, HD.out, (Below.refl _ _).alloc (Nat.le_refl _) _⟩
end Go.Proofs.YtkgfdbbdmchmeaaDoor
namespace Go.Proofs.YtkgfdbbdmchmeaaDoor
open Go.ChangeShapes Go.WideShapes Go.ChangeAt Go.RowKit
theorem own : ownKnob Tryd.prog.godebug = none := by kernel_rfl
theorem laidOut : laidOutB Tryd.prog = true := by kernel_rfl
variable {H : Type} {enc : TypeId × Value → H} {W : World}
end Go.Proofs.YtkgfdbbdmchmeaaDoor
namespace Go.Proofs.YtkgfdbbdmchmeaaDoor
open Go.ChangeShapes Go.WideShapes Go.ChangeAt Go.RowKit
theorem cells_int : Tryd.prog.cellsOf 3 = 1 := by kernel_rfl
theorem bytes_int : Tryd.prog.bytesOf 3 = 8 := by kernel_rfl
variable {H : Type} {enc : TypeId × Value → H} {W : World}
theorem open_i64s {A : Option Addr} {len cap : Nat} {d : DataW H} {p : List MemPlace} (hf : DataW.Trod enc Tryd.prog W 0 (fun _ => true) true 29 (.slice A len cap) d p)
    (lt : ∀ q ∈ p, q.block < W.heap.size) :
    ∃ x : List Int, len = x.length ∧ SeesP W (· < W.heap.size) A (x.map (Value.int .i64)) ∧ (∀ y ∈ x, -9223372036854775808 ≤ y ∧ y ≤ 9223372036854775807) ∧ len ≤ cap ∧ (cap = 0 ∨ ∃ es sp, d = .slice es sp ∧ es.length + sp.length = cap) := by
  obtain ⟨fuel, hf⟩ := hf
  rcases open_ints Tryd.underlying29 Tryd.underlying3 cells_int hf with ⟨hcs, _⟩ | ⟨a, l, c, zs, hcs, _, hl, hm, hz, hx, hcell, hwz⟩
  · simp [Value.cells] at hcs
    obtain ⟨rfl, rfl, rfl⟩ := hcs
    exact ⟨[], rfl, .inl rfl, by simp, Nat.le_refl _, .inl rfl⟩
  · simp [Value.cells] at hcs
    obtain ⟨rfl, rfl, rfl⟩ := hcs
    simp only [Prod.mk.injEq] at hx
    obtain ⟨rfl, rfl⟩ := hx
    simp only [if_true] at hz
    refine ⟨zs.take len, by simp; omega, ?_, ?_, hl, .inr ⟨_, _, rfl, by simp [lits]; omega⟩⟩
    · rcases Nat.eq_zero_or_pos len with h0 | h0
      · subst h0; exact .inl (by simp)
      · obtain ⟨b, off, spot⟩ := a
        have hspot : spot = none := by simpa [Addr.add] using World.cell?_spot (hcell 0 (by omega))
        subst hspot
        have hb : b < W.heap.size := lt (.cell b off) (MemPlace.mem_row.2 ⟨0, by omega, by simp⟩)
        refine .inr ⟨b, off, rfl, hb, fun j hj => ?_⟩
        have hj' : j < len := by simp at hj; omega
        have hjz : j < zs.length := by omega
        have hadd : (⟨b, off, none⟩ : Addr).add j = ⟨b, off + j, none⟩ := by unfold Addr.add; split <;> simp_all
        rw [← hadd, hcell j hjz]
        have hg : zs.getD j 0 = zs[j] := by simp [List.getD, hjz]
        rw [hg]
        simp [hj', hjz]
    · intro y hy
      have := hwz y (List.mem_of_mem_take hy)
      simpa [Lit.wf, IntKind.min, IntKind.max, IntKind.signed, IntKind.bits] using this
theorem reach_i64s {ts : List TypeId} {ds : List (DataW H)} (h : (DataW.weightsEach Tryd.prog ts ds).all (· ≤ reachBytes) = true) {j : Nat} {d : DataW H} (ht : ts[j]? = some 29) (hd : ds[j]? = some d)
    {len cap : Nat} (hl : len ≤ cap) (hc : cap = 0 ∨ ∃ es sp, d = .slice es sp ∧ es.length + sp.length = cap) : len ≤ 140737488351232 := by
  rcases hc with rfl | ⟨es, sp, rfl, rfl⟩
  · omega
  · have := sized_slice h ht hd Tryd.underlying29
    rw [bytes_int] at this
    simp only [reachBytes] at this
    omega
end Go.Proofs.YtkgfdbbdmchmeaaDoor
namespace Go.Proofs.YtkgfdbbdmchmeaaDoor
open Go.RowKit
set_option maxRecDepth 8000
def encE (f : F) : Int := if chkE f 1 ≠ 0 then chkE f 1 else if 256 < f.size then 2 else if 4096 < encN f then 2 else 0
def encB (f : F) : List UInt8 := if encE f = 0 then enc f else []
theorem chkE_tags : ∀ {f : F} {d : Int}, chkE f d = 0 → f.tags
  | .nil, _, _ => trivial
  | .cons t v k r, d, h => by
    by_cases h1 : chk1 t v.length k.len d = 0
    · by_cases h2 : chkE k (d + 1) = 0
      · rw [chkE_3 h1 h2] at h
        refine ⟨?_, chkE_tags h2, chkE_tags h⟩
        cases hv : validB t
        · unfold chk1 at h1; rw [if_pos hv] at h1; omega
        · exact valid_range hv
      · rw [chkE_2 h1 h2] at h; omega
    · rw [chkE_1 h1] at h; omega
theorem encN_le : ∀ {f : F}, f.ok → encN f ≤ f.size * 140737488351300
  | .nil, _ => by simp [encN]
  | .cons t v k r, h => by
    obtain ⟨_, hv, hk, hr⟩ := h
    have h1 := encN_le hk
    have h2 := encN_le hr
    have h3 := tagN_le t
    have h4 := lb_le8 (v.length + encN k)
    simp only [encN, F.size]
    omega
def GivesC (w : World) (bs : List UInt8) (er : Int) (e : Ending) (w' : World) : Prop :=
  ∃ A c, e = .returned (.tuple #[.slice A bs.length c, .int .i64 er]) ∧ Sees w' w'.heap.size A (Us bs) ∧ Below w.heap.size w w' ∧ bs.length ≤ c
def GivesN_Enc (w : World) (bs : List UInt8) (er : Int) (e : Ending) (w' : World) : Prop :=
  ∃ A c, e = .returned (.tuple #[.slice A bs.length c, .int .i64 er]) ∧ SeesP w' (fun b => w.heap.size ≤ b ∧ b < w'.heap.size) A (Us bs) ∧ Below w.heap.size w w' ∧ bs.length ≤ c
theorem new_of_own {w w' : World} {g k cap : Nat} {l : List UInt8} (ho : Out w' w.heap.size g k cap l) : SeesP w' (fun b => w.heap.size ≤ b ∧ b < w'.heap.size) (some ⟨g, 0, none⟩) (Us l) := by
  rcases Sees.of_own ho with h | ⟨b, o, e, hlt, hc⟩
  · exact .inl h
  · injection e with e
    injection e with e1 e2
    subst e1 e2
    exact .inr ⟨_, _, rfl, ho.lt _ rfl, hc⟩
theorem enc_fail {f : F} {x : Int} {w w' : World} (h : encE f = x) (hx : x ≠ 0) (hb : Below w.heap.size w w') : GivesN_Enc w (encB f) (encE f) (.returned (.tuple #[.slice none 0 0, .int .i64 x])) w' := by
  have : encB f = [] := by unfold encB; rw [h, if_neg hx]
  rw [this, h]
  exact ⟨none, 0, rfl, .inl rfl, hb, Nat.le_refl _⟩
theorem enc_done {f : F} {g : Nat} {w w' : World} (h : encE f = 0) (ho : Out w' w.heap.size g (encN f) (encN f) (enc f)) (hb : Below w.heap.size w w') :
    GivesN_Enc w (encB f) (encE f) (.returned (.tuple #[.slice (some ⟨g, 0, none⟩) (encN f) (encN f), .int .i64 0])) w' := by
  have : encB f = enc f := by unfold encB; rw [if_pos h]
  rw [this, h]
  refine ⟨_, encN f, by rw [enc_length], new_of_own ho, hb, by rw [enc_length]; exact Nat.le_refl _⟩
set_option maxHeartbeats 1000000 in
theorem tlv_encode_n (f : F) (A : Option Addr) (c : Nat) (w : World) (hsz : f.size < 1125899906842624) (hok : f.ok) (hs : SeesF w (· < w.heap.size) A f) :
    Calls Tryd.prog 29 #[.slice A f.len c] w (GivesN_Enc w (encB f) (encE f)) := by
  obtain ⟨i0, hi, hz0, hz1, hz2⟩ := info_parts info_u8b
  have hc := tlv_check 1125899906842624 f A c 1 w _ hsz (Nat.le_refl _) hok (by decide) (by decide) hs
  unfold ChkIs at hc
  obtain ⟨x, hx⟩ : ∃ x, x = chkE f 1 := ⟨_, rfl⟩
  rw [← hx] at hc
  by_cases h1 : x = 0
  · subst h1
    rw [if_pos rfl] at hc
    have HC := Lib.hid hc
    clear hc
    by_cases h2 : 256 < f.size
    · have hf := enc_fail (w := w) (w' := w) (show encE f = 2 by unfold encE; rw [if_neg (by omega), if_pos h2]) (by decide) (Below.refl _ _)
      have HF := Lib.hid hf
      have d1 : decide ((256 : Int) < (f.size : Int)) = true := by simp; omega
      clear hf h2 hx hs
      go_enter Tryd.func29, Tryd.ntmps29
      go_wp2_with (go_at_call 41; refine HC.out.mono ?_; rintro e w' ⟨rfl, rfl⟩)
      go_ret2
      exact HF.out
    · have d1 : decide ((256 : Int) < (f.size : Int)) = false := by simp; omega
      have hle := encN_le hok
      have hS := tlv_size 1125899906842624 (Nat.le_refl _) f A c w hsz hok (by omega) hs
      have HS := Lib.hid hS
      clear hS
      by_cases h3 : 4096 < encN f
      · have hf : ∀ w', Below w.heap.size w w' → GivesN_Enc w (encB f) (encE f) (.returned (.tuple #[.slice none 0 0, .int .i64 2])) w' := fun w' hb => enc_fail (show encE f = 2 by unfold encE; rw [if_neg (by omega), if_neg h2, if_pos h3]) (by decide) hb
        have HF := Lib.hid hf
        have d2 : decide ((4096 : Int) < (encN f : Int)) = true := by simp; omega
        clear hf h2 h3 hx hs hle
        go_enter Tryd.func29, Tryd.ntmps29
        go_wp2_with (first | (go_at_call 41; refine HC.out.mono ?_; rintro e w' ⟨rfl, rfl⟩) | (go_at_call 42; refine HS.out.mono ?_; rintro e w' ⟨rfl, hb⟩; have HB := Lib.hid hb; clear hb))
        go_ret2
        exact HF.out _ HB.out
      · have d2 : decide ((4096 : Int) < (encN f : Int)) = false := by simp; omega
        have hE : encE f = 0 := by unfold encE; rw [if_neg (by omega), if_neg h2, if_neg h3]
        have HA := Lib.hid (show f.ok ∧ f.tags ∧ encE f = 0 ∧ SeesF w (· < w.heap.size) A f from ⟨hok, chkE_tags hx.symm, hE, hs⟩)
        have h3 : encN f ≤ 4096 := by omega
        clear h2 hx hs hle hE hok
        go_enter Tryd.func29, Tryd.ntmps29
        go_wp2_with (first | (go_at_call 41; refine HC.out.mono ?_; rintro e w' ⟨rfl, rfl⟩) | (go_at_call 42; refine HS.out.mono ?_; rintro e w1 ⟨rfl, hb⟩; have HB := Lib.hid hb; clear hb) | (at_make; refine wpList_make_own _ rfl _ _ 35 rfl w'.heap.size 5 i0 (.int .u8 0) 1 Tryd.underlying35 hi hz0 hz1 _ _ _ (encN f) rfl rfl (by simp) (by rw [hz2]; omega) (by unfold maxLen; omega) HB.out.size ?_; intro w2 hown hgrow))
        have hb2 := HB.out.grown hgrow HB.out.size (by simp)
        have hA := app_list 1125899906842624 (Nat.le_refl _) f A c w'.heap.size w1.heap.size 0 (encN f) [] w2 hsz HA.out.1 HA.out.2.1 h3 (HA.out.2.2.2.keep fun _ hq => hb2.cell hq) hb2.size hown (by omega)
        rw [Nat.zero_add, List.nil_append] at hA
        refine hA.mono ?_
        rintro e w3 ⟨rfl, ho, hg⟩
        have hd := enc_done HA.out.2.2.1 ho (hb2.grown hg hb2.size (by intro k hk; injection hk with hk; rw [← hk]; exact HB.out.size))
        have HD := Lib.hid hd
        clear hd ho hg hA hb2 hown hgrow
        go_wp2_with fail
        go_ret2
        exact HD.out
  · rw [if_neg h1] at hc
    have HC := Lib.hid hc
    have hf := enc_fail (w := w) (w' := w) (show encE f = x by unfold encE; rw [if_pos (by omega)]; exact hx.symm) h1 (Below.refl _ _)
    have HF := Lib.hid hf
    have d1 : (x != 0) = true := by simpa using h1
    clear hc h1 hx hf hs
    go_enter Tryd.func29, Tryd.ntmps29
    go_wp2_with (go_at_call 41; refine HC.out.mono ?_; rintro e w' ⟨rfl, rfl⟩)
    go_ret2
    exact HF.out
theorem tlv_encode_c (f : F) (A : Option Addr) (c : Nat) (w : World) (hsz : f.size < 1125899906842624) (hok : f.ok) (hs : SeesF w (· < w.heap.size) A f) :
    Calls Tryd.prog 29 #[.slice A f.len c] w (GivesC w (encB f) (encE f)) :=
  (tlv_encode_n f A c w hsz hok hs).mono fun _ _ ⟨A, c, h1, h2, h3, h4⟩ => ⟨A, c, h1, h2.imp fun _ hb => hb.2, h3, h4⟩
end Go.Proofs.YtkgfdbbdmchmeaaDoor
namespace Go.Proofs.YtkgfdbbdmchmeaaDoor
open Go.RowKit
set_option maxRecDepth 8000
def Lists (w : World) (B : Nat) (vs : List Value) (ls : List (List UInt8)) : Prop :=
  vs.length = ls.length ∧ ∀ (i : Nat) (l : List UInt8), ls[i]? = some l → ∃ (A : Option Addr) (c : Nat), vs[i]? = some (Value.slice A l.length c) ∧ Sees w B A (Us l)
def SeesL (w : World) (B : Nat) (A : Option Addr) (ls : List (List UInt8)) : Prop := ∃ vs, Sees w B A vs ∧ Lists w B vs ls
theorem Lists.below {w w' : World} {B : Nat} {vs : List Value} {ls : List (List UInt8)} (h : Lists w B vs ls) (hb : Below B w w') : Lists w' B vs ls :=
  ⟨h.1, fun i l hl => by obtain ⟨A, c, hv, hs⟩ := h.2 i l hl; exact ⟨A, c, hv, hs.below hb⟩⟩
theorem Lists.more {w : World} {B B' : Nat} {vs : List Value} {ls : List (List UInt8)} (h : Lists w B vs ls) (hB : B ≤ B') : Lists w B' vs ls :=
  ⟨h.1, fun i l hl => by obtain ⟨A, c, hv, hs⟩ := h.2 i l hl; exact ⟨A, c, hv, hs.more hB⟩⟩
theorem SeesL.on {w w' : World} {A : Option Addr} {ls : List (List UInt8)} (h : SeesL w w.heap.size A ls) (hb : Below w.heap.size w w') : SeesL w' w'.heap.size A ls := by
  obtain ⟨vs, h1, h2⟩ := h
  exact ⟨vs, h1.on hb, (h2.below hb).more hb.size⟩
theorem SeesL.nil_ {w : World} {B : Nat} {A : Option Addr} : SeesL w B A [] := ⟨[], .inl rfl, rfl, fun i l h => by simp at h⟩
def Owned (w : World) (base : Nat) (e : TypeId) (vs : List Value) (ls : List (List UInt8)) : Prop :=
  vs.length = ls.length ∧ ∀ (i : Nat) (l : List UInt8), ls[i]? = some l → ∃ (A : Option Addr) (c : Nat), vs[i]? = some (Value.slice A l.length c) ∧ w.ownsRow base e 1 (.slice A l.length c) l.length (Us l)
theorem Owned.nil_ {w : World} {base : Nat} {e : TypeId} : Owned w base e [] [] := ⟨rfl, fun i l h => by simp at h⟩
theorem own_apart {w : World} {base base' : Nat} {e e' : TypeId} {v v' : Value} {n n' : Nat} {xs xs' : List Value} (h : w.ownsRow base e 1 v n xs) (h' : w.ownsRow base' e' 1 v' n' xs') (hne : e ≠ e') :
    v.ownBlock = none ∨ v.ownBlock ≠ v'.ownBlock := by
  rcases h.2 with ⟨rfl, _⟩ | ⟨g, cap, cur, rfl, _, hh, _⟩
  · left; rfl
  · right
    rcases h'.2 with ⟨rfl, _⟩ | ⟨g', cap', cur', rfl, _, hh', _⟩
    · simp [Value.ownBlock]
    · intro he
      have : g = g' := by simpa [Value.ownBlock] using he
      subst this
      rw [hh] at hh'
      injection hh' with hh'
      injection hh' with _ ht
      exact hne ht
theorem Owned.kept {w w' : World} {base base' : Nat} {e e' : TypeId} {vs : List Value} {ls : List (List UInt8)} {v' : Value} {n' : Nat} {xs' : List Value} (h : Owned w base e vs ls) (h' : w.ownsRow base' e' 1 v' n' xs') (hne : e ≠ e')
    (hg : w.grownBy w' v'.ownBlock) : Owned w' base e vs ls :=
  ⟨h.1, fun i l hl => by obtain ⟨A, c, hv, hs⟩ := h.2 i l hl; exact ⟨A, c, hv, hs.kept hg (own_apart hs h' hne)⟩⟩
theorem Owned.alloc {w : World} {base : Nat} {e : TypeId} {vs : List Value} {ls : List (List UInt8)} (h : Owned w base e vs ls) (o : Obj) : Owned (w.alloc o) base e vs ls :=
  ⟨h.1, fun i l hl => by obtain ⟨A, c, hv, hs⟩ := h.2 i l hl; exact ⟨A, c, hv, hs.alloc o⟩⟩
theorem Owned.new {w w' : World} {base : Nat} {e : TypeId} {vs : List Value} {ls : List (List UInt8)} (h : Owned w base e vs ls) (hg : w.grownBy w' none) : Owned w' base e vs ls :=
  ⟨h.1, fun i l hl => by
    obtain ⟨A, c, hv, hs⟩ := h.2 i l hl
    refine ⟨A, c, hv, hs.kept hg ?_⟩
    rcases hs.2 with ⟨h0, _⟩ | ⟨g, cap, cur, h0, _⟩
    · left; rw [h0]; rfl
    · right; rw [h0]; simp [Value.ownBlock]⟩
theorem Owned.snoc {w : World} {base : Nat} {e : TypeId} {vs : List Value} {ls : List (List UInt8)} {A : Option Addr} {c : Nat} {l : List UInt8} (h : Owned w base e vs ls) (hs : w.ownsRow base e 1 (.slice A l.length c) l.length (Us l)) :
    Owned w base e (vs ++ [Value.slice A l.length c]) (ls ++ [l]) := by
  refine ⟨by simp [h.1], fun i l' hl => ?_⟩
  rw [List.getElem?_append] at hl ⊢
  rw [h.1]
  split at hl
  · rename_i hlt
    rw [if_pos hlt]
    exact h.2 i l' hl
  · rename_i hlt
    rw [if_neg hlt]
    have h0 : i - ls.length = 0 := by
      have := (List.getElem?_eq_some_iff.1 hl).1
      simpa using this
    rw [h0] at hl ⊢
    simp at hl
    subst hl
    exact ⟨A, c, by simp, hs⟩
theorem wpList_copy_fill {P : Program} {w : World} {ops : Array Oper} {rest : List Oper} {o : Oper} {a : Act} {Q : Exit → Act → World → Prop} (hgd : o.guard = none) (d s : Operand) (dT sT : TypeId)
    (ho : o.op = .call { callee := .builtin .copy, args := #[d, s], argTypes := #[dT, sT] }) (elem : TypeId) (hu : P.underlying dT = some (.slice elem)) (hsz : (P.info? elem).map (·.size) = some 1)
    (base g n cap : Nat) (xs : List Value) (hd : a.eval d = .slice (some ⟨g, 0, none⟩) n cap) (hown : w.ownsRow base elem 1 (.slice (some ⟨g, 0, none⟩) n cap) n xs)
    (A : Option Addr) (sLen sCap B : Nat) (ss : List Value) (hs : a.eval s = .slice A sLen sCap) (hl : ss.length = sLen) (hsees : Sees w B A ss) (h1 : ∀ v ∈ ss, v.oneCell' = true)
    (hK : ∀ w', w'.ownsRow base elem 1 (.slice (some ⟨g, 0, none⟩) n cap) n (ss.take n ++ xs.drop ss.length) → w.grownBy w' (some g) → wpList P ops Q rest (a.put o.dst (goInt (Nat.min sLen n))) w') :
    wpList P ops Q (o :: rest) a w := by
  subst hl
  have hxl : xs.length = n := by simpa using hown.1
  by_cases h0 : Nat.min ss.length n = 0
  · refine wpList_copy_nothing hgd d s dT sT ho elem hu hsz _ _ n cap ss.length sCap hd hs h0 ?_
    have h0' : ss.take n = [] ∧ xs.drop ss.length = xs := by
      rcases Nat.eq_zero_or_pos n with rfl | hn
      · have : xs = [] := List.eq_nil_of_length_eq_zero hxl
        subst this; simp
      · have : ss.length = 0 := by
          have h := h0
          simp only [Nat.min_def] at h
          split at h <;> omega
        have : ss = [] := List.eq_nil_of_length_eq_zero this
        subst this; simp
    have h := hK w (by rw [h0'.1, h0'.2]; exact hown) (World.grownBy.refl _ _)
    rw [h0] at h
    exact h
  · obtain ⟨m, hm⟩ : ∃ m, Nat.min ss.length n = m := ⟨_, rfl⟩
    have hm1 : m ≤ n := by rw [← hm]; exact Nat.min_le_right _ _
    have hm2 : m ≤ ss.length := by rw [← hm]; exact Nat.min_le_left _ _
    have hm3 : m = n ∨ m = ss.length := by
      rw [← hm]; simp only [Nat.min_def]; split
      · right; rfl
      · left; rfl
    have hpos : 0 < ss.length := by omega
    have hcl : (ss.take n).length = m := by rw [List.length_take]; omega
    obtain ⟨b, off, rfl, hb, hc⟩ := hsees.at_ (k := 0) hpos
    rcases hown.2 with ⟨h', _⟩ | ⟨g', cap', cur, h', hbg, hg, hnc, hcm, hcs, htake⟩
    · simp at h'
    · simp only [Value.slice.injEq, Option.some.injEq, Addr.mk.injEq, and_true, true_and] at h'
      obtain ⟨rfl, rfl⟩ := h'
      have hcs' : cur.toList.length = cap := by rw [Array.length_toList, hcs, Nat.mul_one]
      have hx : xs = cur.toList.take n := by rw [← htake, Nat.mul_one]
      refine wpList_copy_own hgd d s dT sT ho elem hu hsz g 0 n cap ⟨b, off, none⟩ ss.length sCap hd hs cur elem hg (ss.take n) (by rw [hcl]; exact hm.symm) ?_ (by rw [hcl, hcs]; omega) (fun v hv => h1 v (List.mem_of_mem_take hv)) ?_
      · intro j v hj
        rw [List.getElem?_take] at hj
        split at hj
        · have hjl : j < ss.length := (List.getElem?_eq_some_iff.1 hj).1
          have hadd : (⟨b, off, none⟩ : Addr).add j = ⟨b, off + j, none⟩ := by unfold Addr.add; split <;> simp_all
          rw [hadd, hc j hjl, hj]
        · cases hj
      · rw [hcl]
        rw [hm] at hK
        refine hK _ ?_ ⟨rfl, rfl, rfl, by simp [World.setRow], fun k _ hk => setRow_other w g k _ (fun e => hk (by simp [e]))⟩
        have hlen : (ss.take n ++ xs.drop ss.length).length = n := by
          rw [List.length_append, hcl, List.length_drop, hxl]; omega
        refine ⟨by simpa using hlen, .inr ⟨g, cap, _, rfl, hbg, setRow_heap w g cur _ elem _ hg, hnc, hcm, ?_, ?_⟩⟩
        · simp only [List.take_zero, List.nil_append, List.size_toArray, List.length_append, List.length_drop, hcl, Nat.zero_add, Nat.mul_one]
          omega
        · simp only [List.take_zero, List.nil_append, Nat.mul_one, Nat.zero_add]
          rw [hx]
          rcases hm3 with e | e
          · rw [List.take_append_of_le_length (by omega), List.take_of_length_le (by omega)]
            have : (cur.toList.take n).drop ss.length = [] := List.drop_eq_nil_of_le (by rw [List.length_take]; omega)
            rw [this, List.append_nil]
          · have e2 : ss.take n = ss := List.take_of_length_le (by omega)
            rw [e2, e, List.take_append, List.take_of_length_le (by omega), List.drop_take]
end Go.Proofs.YtkgfdbbdmchmeaaDoor
