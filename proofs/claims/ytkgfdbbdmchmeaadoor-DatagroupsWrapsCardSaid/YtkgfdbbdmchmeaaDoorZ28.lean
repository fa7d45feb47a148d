/-
  What is proved here: the group that a file holds, in plain words; Open, openBetween and openAs of the program.
-/
import Derived.Test.YtkgfdbbdmchmeaaDoorZ23
import Derived.Test.YtkgfdbbdmchmeaaDoorZ27
import Derived.BigQuiet
import Derived.Test.YtkgfdbbdmchmeaaDoorZ21
import Derived.Test.YtkgfdbbdmchmeaaDoorZ19
import Derived.Test.YtkgfdbbdmchmeaaDoorZ1
import Derived.Test.YtkgfdbbdmchmeaaDoorZ18
import Derived.Test.YtkgfdbbdmchmeaaDoorZ20
import Derived.Test.YtkgfdbbdmchmeaaDoorRows
import Derived.Test.YtkgfdbbdmchmeaaDoorZ22
import Derived.Test.YtkgfdbbdmchmeaaDoorZ17
import Derived.Test.YtkgfdbbdmchmeaaDoorZ15
import Derived.Lib.Strings
import Derived.Lib.Slices
import Derived.Lib.Small
import Derived.Lib.Walk
import Derived.Lib.BitFns
import Derived.Deep.RegionWith
import Derived.Laws.ResultCell
import Derived.Laws.Rows
import Derived.ProofKit
import Derived.OpenShut
import Derived.ShutString
import Derived.ChangeOld
import Derived.SizedLaws
import Derived.Deep.CutRange
import Derived.Laws.AppendOwnNone
import Derived.Deep.RegionLaw
import Derived.Deep.AppendLies
import Derived.Lib.AppendZerosOnto
import Derived.Deep.DeepMust
namespace Go.Proofs.YtkgfdbbdmchmeaaDoor
open Go.RowKit
set_option maxRecDepth 8000
set_option linter.unusedVariables false
set_option linter.unusedSimpArgs false
def opG : F → Int × F × Int
  | .cons t _ k .nil => if (ggR t).2 = 0 then ((ggR t).1, k, 0) else (0, .nil, (ggR t).2)
  | _ => (0, .nil, 1)
theorem opG_len {f : F} (h : f.len ≠ 1) : opG f = (0, .nil, 1) := by
  match f, h with
  | .nil, _ => rfl
  | .cons _ _ _ .nil, h => exact absurd rfl h
  | .cons _ _ _ (.cons _ _ _ _), _ => rfl
def opX (l : List UInt8) : Int × F × Int := match parse false l with
  | .error x => (0, .nil, x)
  | .ok (f, _) => opG f
def obX (l : List UInt8) (lo hi : Int) : Int × F × Int := if (opX l).2.2 ≠ 0 then (0, .nil, (opX l).2.2) else if (opX l).1 < lo ∨ hi < (opX l).1 then (0, .nil, 4) else opX l
def OpnIs (r : Int × F × Int) (w : World) (e : Ending) (w' : World) : Prop := ∃ A c, e = .returned (.tuple #[.int .i64 r.1, .slice A r.2.1.len c, .int .i64 r.2.2]) ∧ r.2.1.len ≤ c ∧ SeesN w' (newB w w') A r.2.1 ∧ Below w.heap.size w w'
def OasIs (r : Int × F × Int) (w : World) (e : Ending) (w' : World) : Prop := ∃ A c, e = .returned (.tuple #[.slice A r.2.1.len c, .int .i64 r.2.2]) ∧ r.2.1.len ≤ c ∧ SeesN w' (newB w w') A r.2.1 ∧ Below w.heap.size w w'
theorem OpnIs.bad {w u : World} (x : Int) (hb : Below w.heap.size w u) : OpnIs (0, .nil, x) w (.returned (.tuple #[.int .i64 0, .slice none 0 0, .int .i64 x])) u := ⟨none, 0, rfl, Nat.le_refl _, SeesN.nil_, hb⟩
theorem SeesN.dn {w w' : World} {A : Option Addr} {f : F} (h : SeesN w' (newB w w') A f) (q : Nat) : SeesN (w'.drewN q) (newB w (w'.drewN q)) A f := (SeesN.keep (w' := w'.drewN q) h fun _ _ => rfl).imp fun _ hb => hb
set_option maxHeartbeats 1600000 in
theorem p_open15 (l : List UInt8) (n : Nat) (hn : l.length = n) (hm : n ≤ 140737488351232) (A : Option Addr) (cap : Nat) (hcap : n ≤ cap) (w : World) (ht : TabT w) (hs : SeesP w (· < w.heap.size) A (Us l)) :
    Calls Tryd.prog 66 #[.slice A n cap] w (OpnIs (opX l) w) := by
  have hP := tlv_parseC false l A cap w (by omega) (by omega) hs
  have HT := Lib.hid ht
  rcases hr : parse false l with x | ⟨f, q⟩
  · have e1 : opX l = (0, .nil, x) := by unfold opX; rw [hr]
    rw [hr, hn] at hP
    rw [e1]
    unfold ParIsC at hP
    have HP := Lib.hid hP
    clear hP hr hs ht e1 hn hcap hm
    go_enter Tryd.func66, Tryd.ntmps66
    go_wp2_with fail
    refine HP.out.mono ?_
    rintro e w1 ⟨hb, rfl, hx⟩
    have d0 : (x != 0) = true := by simpa using hx
    have HB := Lib.hid hb
    clear hb hx
    go_wp2_with fail
    go_ret3
    exact OpnIs.bad _ HB.out
  by_cases h1 : f.len = 1
  case neg =>
    have e1 : opX l = (0, .nil, 1) := by unfold opX; rw [hr]; exact opG_len h1
    rw [hr, hn] at hP
    rw [e1]
    unfold ParIsC at hP
    obtain ⟨m, hm2⟩ : ∃ m, f.len = m := ⟨_, rfl⟩
    simp only [hm2] at hP
    rw [hm2] at h1
    have d1 : ((m : Int) != 1) = true := by simp; omega
    have HP := Lib.hid hP
    clear hP hr hs ht e1 hn hcap hm h1 hm2
    go_enter Tryd.func66, Tryd.ntmps66
    go_wp2_with fail
    refine HP.out.mono ?_
    rintro e w1 ⟨hb, A2, c2, rfl, _⟩
    have HB := Lib.hid hb
    clear hb
    go_wp2_with fail
    go_ret3
    exact OpnIs.bad _ HB.out
  case pos =>
  obtain ⟨t, v, k, rfl⟩ : ∃ t v k, f = .cons t v k .nil := by
    match f, h1 with
    | .cons a b d .nil, _ => exact ⟨a, b, d, rfl⟩
    | .cons a b d (.cons _ _ _ _), h => simp [F.len] at h
  have e1 : opX l = if (ggR t).2 = 0 then ((ggR t).1, k, 0) else (0, .nil, (ggR t).2) := by unfold opX; rw [hr]; rfl
  rw [hr, hn] at hP
  obtain ⟨lk, hlk⟩ : ∃ z, k.len = z := ⟨_, rfl⟩
  have HP : Hid (Calls Tryd.prog 72 #[.slice A n cap, .bool false] w fun e w' => Below w.heap.size w w' ∧ ∃ b o c Ak ck, e = .returned (.tuple #[.slice (some ⟨b, o, none⟩) 1 c, .int .i64 0]) ∧ w'.cell? ⟨b, o, none⟩ = some (.int .i64 t) ∧ w'.cell? ⟨b, o + 2, none⟩ = some (.slice Ak lk ck) ∧ lk ≤ ck ∧ SeesN w' (newB w w') Ak k) := Lib.hid (hP.mono fun e w' ⟨hb, A2, c2, he, _, hk⟩ => by
    obtain ⟨b, o, Av, cv, Ak, ck, rfl, _, hlr, _, _, hkc, _, hkk⟩ := node_atN (j := 0) hk rfl
    rw [Nat.zero_mul, Nat.add_zero] at hlr
    rw [← hlk]
    exact ⟨hb, b, o, c2, Ak, ck, he, hlr 0 _ rfl, hlr 2 _ rfl, hkc, hkk⟩)
  have HG := Lib.hid (fun (u : World) (hb : Below w.heap.size w u) => p_group t u (HT.out.on hb))
  obtain ⟨gv, hgv⟩ : ∃ z, (ggR t).1 = z := ⟨_, rfl⟩
  obtain ⟨ge, hge⟩ : ∃ z, (ggR t).2 = z := ⟨_, rfl⟩
  rw [hgv, hge] at HG e1
  rw [e1]
  clear hP hr hs ht e1 hn hcap hm h1 hgv hge
  by_cases h0 : ge = 0
  · subst h0
    rw [if_pos rfl]
    have HK := Lib.hid hlk
    clear hlk
    go_enter Tryd.func66, Tryd.ntmps66
    go_wp2_with (first
      | (go_at_call 72; ((with_reducible refine HP.out.mono ?_); rintro e w1 ⟨hb, b, o, c, Ak, ck, rfl, x0, x2, hkc, hkk⟩); have HX := Lib.hid (show Below w.heap.size w w1 ∧ lk ≤ ck ∧ SeesN w1 (newB w w1) Ak k from ⟨hb, hkc, hkk⟩); clear hb hkc hkk)
      | (go_at_call 7; ((with_reducible refine (HG.out _ HX.out.1).mono ?_); rintro e w2 ⟨rfl, hw1⟩); (have hw2 := hw1.symm; clear hw1; subst hw2)))
    have HD := Lib.hid (show ∀ q, OpnIs (gv, k, 0) w (.returned (.tuple #[.int .i64 gv, .slice Ak lk ck, .int .i64 0])) (w1.drewN q) from fun q => ⟨Ak, ck, by show _ = Ending.returned (.tuple #[.int .i64 gv, .slice Ak k.len ck, .int .i64 0]); rw [HK.out], by show k.len ≤ ck; rw [HK.out]; exact HX.out.2.1, HX.out.2.2.dn _, below_dn HX.out.1 _⟩)
    go_quiet (fail)
    go_wp2_with fail
    go_ret3
    exact HD.out _
  · rw [if_neg h0]
    have d0 : (ge != 0) = true := by simpa using h0
    clear h0 hlk
    go_enter Tryd.func66, Tryd.ntmps66
    go_wp2_with (first
      | (go_at_call 72; ((with_reducible refine HP.out.mono ?_); rintro e w1 ⟨hb, b, o, c, Ak, ck, rfl, x0, x2, hkc, hkk⟩); have HX := Lib.hid hb; clear hb hkc hkk)
      | (go_at_call 7; ((with_reducible refine (HG.out _ HX.out).mono ?_); rintro e w2 ⟨rfl, hw1⟩); (have hw2 := hw1.symm; clear hw1; subst hw2)))
    go_ret3
    exact OpnIs.bad _ HX.out
set_option maxHeartbeats 1600000 in
theorem p_openb (l : List UInt8) (n : Nat) (hn : l.length = n) (hm : n ≤ 140737488351232) (A : Option Addr) (cap : Nat) (hcap : n ≤ cap) (lo hi : Int) (w : World) (ht : TabT w) (hs : SeesP w (· < w.heap.size) A (Us l)) :
    Calls Tryd.prog 51 #[.slice A n cap, .int .i64 lo, .int .i64 hi] w (OpnIs (obX l lo hi) w) := by
  have HP := Lib.hid (p_open15 l n hn hm A cap hcap w ht hs)
  have hx : obX l lo hi = if (opX l).2.2 ≠ 0 then (0, .nil, (opX l).2.2) else if (opX l).1 < lo ∨ hi < (opX l).1 then (0, .nil, 4) else opX l := rfl
  rw [hx]
  obtain ⟨⟨v, f, er⟩, hr⟩ : ∃ r, opX l = r := ⟨_, rfl⟩
  rw [hr] at HP ⊢
  unfold OpnIs at HP
  simp only at HP ⊢
  obtain ⟨lk, hlk⟩ : ∃ z, f.len = z := ⟨_, rfl⟩
  rw [hlk] at HP
  clear hr hx hs ht hcap hm hn
  by_cases h0 : er = 0
  case neg =>
    rw [if_pos h0]
    have d0 : (er != 0) = true := by simpa using h0
    clear h0 hlk
    go_enter Tryd.func51, Tryd.ntmps51
    go_wp2_with (first
      | (go_at_call 66; ((with_reducible refine HP.out.mono ?_); rintro e w1 ⟨A1, c1, rfl, hc, hk, hb⟩); have HX := Lib.hid hb; clear hb hc hk))
    go_ret3
    exact OpnIs.bad _ HX.out
  case pos =>
  rw [if_neg (by simpa using h0)]
  subst h0
  by_cases h1 : v < lo
  · rw [if_pos (.inl h1)]
    have d1 : decide (v < lo) = true := by simpa using h1
    clear h1 hlk
    go_enter Tryd.func51, Tryd.ntmps51
    go_wp2_with (first
      | (go_at_call 66; ((with_reducible refine HP.out.mono ?_); rintro e w1 ⟨A1, c1, rfl, hc, hk, hb⟩); have HX := Lib.hid hb; clear hb hc hk))
    go_ret3
    exact OpnIs.bad _ HX.out
  have d1 : decide (v < lo) = false := by simpa using h1
  by_cases h2 : hi < v
  · rw [if_pos (.inr h2)]
    have d2 : decide (hi < v) = true := by simpa using h2
    clear h1 h2 hlk
    go_enter Tryd.func51, Tryd.ntmps51
    go_wp2_with (first
      | (go_at_call 66; ((with_reducible refine HP.out.mono ?_); rintro e w1 ⟨A1, c1, rfl, hc, hk, hb⟩); have HX := Lib.hid hb; clear hb hc hk))
    go_ret3
    exact OpnIs.bad _ HX.out
  have d2 : decide (hi < v) = false := by simpa using h2
  rw [if_neg (fun h => h.elim h1 h2)]
  have HK := Lib.hid hlk
  clear h1 h2 hlk
  go_enter Tryd.func51, Tryd.ntmps51
  go_wp2_with (first
    | (go_at_call 66; ((with_reducible refine HP.out.mono ?_); rintro e w1 ⟨A1, c1, rfl, hc, hk, hb⟩); have HX := Lib.hid (show _ ∧ _ ∧ _ from ⟨hb, hc, hk⟩); clear hb hc hk))
  have HD := Lib.hid (show OpnIs (v, f, 0) w (.returned (.tuple #[.int .i64 v, .slice A1 lk c1, .int .i64 0])) w1 from ⟨A1, c1, by show _ = Ending.returned (.tuple #[.int .i64 v, .slice A1 f.len c1, .int .i64 0]); rw [HK.out], by show f.len ≤ c1; rw [HK.out]; exact HX.out.2.1, HX.out.2.2, HX.out.1⟩)
  go_ret3
  exact HD.out
set_option maxHeartbeats 1600000 in
theorem p_opena (l : List UInt8) (n : Nat) (hn : l.length = n) (hm : n ≤ 140737488351232) (A : Option Addr) (cap : Nat) (hcap : n ≤ cap) (g : Int) (w : World) (ht : TabT w) (hs : SeesP w (· < w.heap.size) A (Us l)) :
    Calls Tryd.prog 38 #[.slice A n cap, .int .i64 g] w (OasIs (obX l g g) w) := by
  have HP := Lib.hid (p_openb l n hn hm A cap hcap g g w ht hs)
  obtain ⟨⟨v, f, er⟩, hr⟩ : ∃ r, obX l g g = r := ⟨_, rfl⟩
  rw [hr] at HP ⊢
  unfold OpnIs at HP
  simp only at HP
  obtain ⟨lk, hlk⟩ : ∃ z, f.len = z := ⟨_, rfl⟩
  rw [hlk] at HP
  have HK := Lib.hid hlk
  clear hr hs ht hcap hm hn hlk
  go_enter Tryd.func38, Tryd.ntmps38
  go_wp2_with (first
    | (go_at_call 51; ((with_reducible refine HP.out.mono ?_); rintro e w1 ⟨A1, c1, rfl, hc, hk, hb⟩); have HX := Lib.hid (show _ ∧ _ ∧ _ from ⟨hb, hc, hk⟩); clear hb hc hk))
  have HD := Lib.hid (show OasIs (v, f, er) w (.returned (.tuple #[.slice A1 lk c1, .int .i64 er])) w1 from ⟨A1, c1, by show _ = Ending.returned (.tuple #[.slice A1 f.len c1, .int .i64 er]); rw [HK.out], by show f.len ≤ c1; rw [HK.out]; exact HX.out.2.1, HX.out.2.2, HX.out.1⟩)
  go_ret2
  exact HD.out
end Go.Proofs.YtkgfdbbdmchmeaaDoor
namespace Go.Proofs.YtkgfdbbdmchmeaaDoor
open Go.RowKit
set_option linter.unusedVariables false
set_option linter.unusedSimpArgs false
def StepT (I : World → Prop) (X : Nat → Value → World → Prop) (S : Nat → Bool) (v : Nat → Value) (c : World) (a : Act) (o : Oper) (i : Nat) (a' : Act) (w' : World) : Prop :=
  ∃ u, a' = a.put o.dst u ∧ X i u w' ∧ (Below c.heap.size c w' ∨ (I w' ∧ ∀ j, S j = true → X j (v j) w'))
section
variable {a : Act} {c : World} {o : Oper} {I : World → Prop} {X : Nat → Value → World → Prop} {S : Nat → Bool} {v : Nat → Value} {i : Nat}
theorem StepT.still {x : Value} (h : X i x c) : StepT I X S v c a o i (a.put o.dst x) c := ⟨x, rfl, h, .inl (Below.refl _ _)⟩
theorem StepT.new {x : Value} {c' : World} (h : X i x c') (hb : Below c.heap.size c c') : StepT I X S v c a o i (a.put o.dst x) c' := ⟨x, rfl, h, .inl hb⟩
end
theorem Fresh.grown {w w' : World} {g : Nat} (hf : Fresh w w' g) (row : Option Nat) : w.grownBy w' row := by
  obtain ⟨_, o, rfl⟩ := hf
  exact grown_alloc _ _ _
theorem _root_.Go.World.grownBy.on {w a b : World} {row : Option Nat} (h : w.grownBy a row) (hb : Below a.heap.size a b) : w.grownBy b row :=
  ⟨hb.os.trans h.os, hb.tape.trans h.tape, hb.output.trans h.output, Nat.le_trans h.size hb.size, fun k hk hn => (hb.block k (Nat.lt_of_lt_of_le hk h.size)).trans (h.block k hk hn)⟩
end Go.Proofs.YtkgfdbbdmchmeaaDoor
namespace Go.Proofs.YtkgfdbbdmchmeaaDoor
open Go.RowKit
set_option maxRecDepth 8000
set_option linter.unusedVariables false
set_option linter.unusedSimpArgs false
def Ncs (b : Nat) : List (Int × Nat × Nat) → List Value
  | [] => []
  | (t, s, c) :: r => .int .i64 t :: .int .i64 (s : Int) :: .pointer (some ⟨b, c, none⟩) :: Ncs b r
def NumS (w0 : World) (b : Nat) (u : Value) (c : World) : Prop := ∃ g, u = .slice (some ⟨g, 0, none⟩) 2 2 ∧ newB w0 c g ∧ RowV c g (Ncs b [(4, 4, 3), (2, 1, 4)])
theorem NumS.row {w0 : World} {b : Nat} {u : Value} {c c' : World} {v : Value} (h : NumS w0 b u c) (hg : c.grownBy c' v.ownBlock) (hv : ∀ g, v.ownBlock = some g → g < w0.heap.size) : NumS w0 b u c' := by
  obtain ⟨g, h1, h2, h3⟩ := h
  refine ⟨g, h1, ⟨h2.1, Nat.lt_of_lt_of_le h2.2 hg.size⟩, h3.same (hg.block _ h2.2 fun e => ?_)⟩
  have := hv _ e.symm
  have := h2.1
  omega
end Go.Proofs.YtkgfdbbdmchmeaaDoor
namespace Go.Proofs.YtkgfdbbdmchmeaaDoor
open Go.RowKit
set_option maxRecDepth 8000
set_option linter.unusedVariables false
set_option linter.unusedSimpArgs false
def NumK (w4 w5 : World) (v : Value) (c : World) : Prop := (∀ k, v.ownBlock = some k → k < w4.heap.size ∨ w5.heap.size ≤ k) ∧ (∀ k, w4.heap.size ≤ k → k < w5.heap.size → c.heap[k]? = w5.heap[k]?) ∧ w5.heap.size ≤ c.heap.size
theorem NumK.on {w4 w5 c c' : World} {v : Value} (h : NumK w4 w5 v c) (hb : Below c.heap.size c c') : NumK w4 w5 v c' :=
  ⟨h.1, fun k h1 h2 => (hb.block k (Nat.lt_of_lt_of_le h2 h.2.2)).trans (h.2.1 k h1 h2), Nat.le_trans h.2.2 hb.size⟩
theorem NumK.grown {w4 w5 c c' : World} {v : Value} {g n cap : Nat} (h : NumK w4 w5 v c) (hg : c.grownBy c' v.ownBlock) (hl : v.ownBlock = some g ∨ g = c.heap.size) : NumK w4 w5 (.slice (some ⟨g, 0, none⟩) n cap) c' := by
  refine ⟨fun k e => ?_, fun k h1 h2 => (hg.block k (Nat.lt_of_lt_of_le h2 h.2.2) fun e => ?_).trans (h.2.1 k h1 h2), Nat.le_trans h.2.2 hg.size⟩
  · have e : g = k := by simpa [Value.ownBlock] using e
    subst e
    rcases hl with hl | hl
    · exact h.1 _ hl
    · right; rw [hl]; exact h.2.2
  · rcases h.1 _ e.symm with h3 | h3 <;> omega
end Go.Proofs.YtkgfdbbdmchmeaaDoor
namespace Go.Proofs.YtkgfdbbdmchmeaaDoor
open Go.RowKit
set_option maxRecDepth 8000
set_option linter.unusedVariables false
set_option linter.unusedSimpArgs false
def StepK (I : World → Prop) (T : Nat → Bool) (X : Nat → Value → World → Prop) (S : Nat → Bool) (v : Nat → Value) (c : World) (a : Act) (o : Oper) (i : Nat) (a' : Act) (w' : World) : Prop :=
  ∃ u, a' = a.put o.dst u ∧ X i u w' ∧ (Below c.heap.size c w' ∨ (T i = true ∧ I w' ∧ ∀ j, S j = true → X j (v j) w'))
section
variable {a : Act} {c : World} {o : Oper} {I : World → Prop} {T : Nat → Bool} {X : Nat → Value → World → Prop} {S : Nat → Bool} {v : Nat → Value} {i : Nat}
theorem StepK.still {x : Value} (h : X i x c) : StepK I T X S v c a o i (a.put o.dst x) c := ⟨x, rfl, h, .inl (Below.refl _ _)⟩
theorem StepK.new {x : Value} {c' : World} (h : X i x c') (hb : Below c.heap.size c c') : StepK I T X S v c a o i (a.put o.dst x) c' := ⟨x, rfl, h, .inl hb⟩
end
section
variable {P : Program} {a : Act} {w : World} {K : Act → World → Prop} {Q : Exit → Act → World → Prop} {o : Oper}
theorem o_val {v : Value} {w' : World} (h : (execOp a.eval o).run P w = .ok (.value v) w') (hK : K (a.put o.dst v) w') : o.wp P a w K Q := by unfold Oper.wp; rw [h]; exact hK
end
def InfF (w0 : World) (x : Im) (u : Value) (c : World) : Prop := ∃ A cv, u = .agg (nodV 48 none 0 0 A (kidF x).len cv).toArray ∧ (kidF x).len ≤ cv ∧ SeesN c (newB w0 c) A (kidF x)
def InfS (w0 : World) (x : Im) (u : Value) (c : World) : Prop := ∃ A cv g, u = .slice (some ⟨g, 0, none⟩) 1 1 ∧ newB w0 c g ∧ RowV c g (nodV 48 none 0 0 A (kidF x).len cv) ∧ (kidF x).len ≤ cv ∧ SeesN c (newB w0 c) A (kidF x)
theorem InfF.elder {w0 : World} {x : Im} {u : Value} {c c' : World} (h : InfF w0 x u c) (hk : ∀ k, w0.heap.size ≤ k → k < c.heap.size → c'.heap[k]? = c.heap[k]?) (hs : c.heap.size ≤ c'.heap.size) : InfF w0 x u c' := by
  obtain ⟨A, cv, h1, h2, h3⟩ := h
  exact ⟨A, cv, h1, h2, (h3.keep fun q hq => World.cell?_of_block (hk _ hq.1 hq.2)).imp fun b hb => ⟨hb.1, Nat.lt_of_lt_of_le hb.2 hs⟩⟩
theorem InfS.elder {w0 : World} {x : Im} {u : Value} {c c' : World} (h : InfS w0 x u c) (hk : ∀ k, w0.heap.size ≤ k → k < c.heap.size → c'.heap[k]? = c.heap[k]?) (hs : c.heap.size ≤ c'.heap.size) : InfS w0 x u c' := by
  obtain ⟨A, cv, g, h1, h0, h4, h2, h3⟩ := h
  exact ⟨A, cv, g, h1, ⟨h0.1, Nat.lt_of_lt_of_le h0.2 hs⟩, h4.same (hk _ h0.1 h0.2), h2, (h3.keep fun q hq => World.cell?_of_block (hk _ hq.1 hq.2)).imp fun b hb => ⟨hb.1, Nat.lt_of_lt_of_le hb.2 hs⟩⟩
theorem InfF.row {w0 : World} {x : Im} {u : Value} {c c' : World} {v : Value} (h : InfF w0 x u c) (hg : c.grownBy c' v.ownBlock) (hv : ∀ g, v.ownBlock = some g → g < w0.heap.size) : InfF w0 x u c' :=
  h.elder (fun k h1 h2 => hg.block k h2 fun e => by have := hv _ e.symm; omega) hg.size
theorem InfS.row {w0 : World} {x : Im} {u : Value} {c c' : World} {v : Value} (h : InfS w0 x u c) (hg : c.grownBy c' v.ownBlock) (hv : ∀ g, v.ownBlock = some g → g < w0.heap.size) : InfS w0 x u c' :=
  h.elder (fun k h1 h2 => hg.block k h2 fun e => by have := hv _ e.symm; omega) hg.size
theorem InfF.put {w0 : World} {x : Im} {u : Value} {c c' : World} {g : Nat} (h : InfF w0 x u c) (hw : Wr c c' g) (hg : g < w0.heap.size) : InfF w0 x u c' :=
  h.elder (fun k h1 h2 => hw.2.2.2.2 k (by omega)) (Nat.le_of_eq hw.2.2.2.1.symm)
theorem InfS.put {w0 : World} {x : Im} {u : Value} {c c' : World} {g : Nat} (h : InfS w0 x u c) (hw : Wr c c' g) (hg : g < w0.heap.size) : InfS w0 x u c' :=
  h.elder (fun k h1 h2 => hw.2.2.2.2 k (by omega)) (Nat.le_of_eq hw.2.2.2.1.symm)
end Go.Proofs.YtkgfdbbdmchmeaaDoor
