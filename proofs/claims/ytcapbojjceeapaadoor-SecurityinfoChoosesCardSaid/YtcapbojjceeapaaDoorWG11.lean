/-
  What is proved here: what the reference's functions of the first layer return, with no condition but that their arguments lie in memory.
-/
import Derived.Test.YtcapbojjceeapaaDoorRows
import Derived.Test.YtcapbojjceeapaaDoorWG1
import Derived.Test.YtcapbojjceeapaaDoorWG7
namespace Go.Proofs.YtcapbojjceeapaaDoor
open Go.RowKit
theorem bytes_equal (A1 A2 : Option Addr) (c1 c2 n1 n2 : Nat) (x y : List UInt8) (w : World) (B : Nat) (h1 : Sees w B A1 (Us x)) (h2 : Sees w B A2 (Us y)) (l1 : n1 = x.length) (l2 : n2 = y.length) :
    Calls Tryd.prog 102 #[.slice A1 n1 c1, .slice A2 n2 c2] w fun e w' => e = .returned (.bool (sameB x y)) ∧ w' = w := by
  have r1 := run_conv w B A1 x h1 n1 c1 l1
  have r2 := run_conv w B A2 y h2 n2 c2 l2
  clear l1 l2
  go_enter Tryd.func102, Tryd.ntmps102
  go_wp2
  go_ret
  exact ⟨by rw [S_toList, S_toList]; rfl, rfl⟩
theorem oct_same (A1 A2 : Option Addr) (c1 c2 n1 n2 : Nat) (x y : List UInt8) (w : World) (B : Nat) (h1 : Sees w B A1 (Us x)) (h2 : Sees w B A2 (Us y)) (l1 : n1 = x.length) (l2 : n2 = y.length) :
    Calls Tryd.prog 94 #[.slice A1 n1 c1, .slice A2 n2 c2] w fun e w' => e = .returned (.bool (sameB x y)) ∧ w' = w := by
  have L1 := Lib.hid l1
  have L2 := Lib.hid l2
  clear l1 l2
  go_enter Tryd.func94, Tryd.ntmps94
  go_wp2_with (go_at_call 102; refine (bytes_equal A1 A2 c1 c2 n1 n2 x y _ B h1 h2 L1.out L2.out).mono ?_; rintro e w' ⟨rfl, rfl⟩)
  go_ret
  exact ⟨rfl, rfl⟩
end Go.Proofs.YtcapbojjceeapaaDoor
namespace Go.Proofs.YtcapbojjceeapaaDoor
open Go.RowKit
set_option linter.unusedVariables false
set_option linter.unusedSimpArgs false
structure VarSp where
  al : Nat
  st : Nat
  z : List Value
  u : List Value
def VarW (w1 : World) (Sp : List VarSp) (b : Nat → Nat) (S : Nat → Bool) (c : World) : Prop :=
  Below w1.heap.size w1 c ∧ (∀ s ∈ Sp, S s.al = true → w1.heap.size ≤ b s.al ∧ RowV c (b s.al) (if S s.st = true then s.u else s.z)) ∧ (∀ s ∈ Sp, ∀ s' ∈ Sp, s.al ≠ s'.al → S s.al = true → S s'.al = true → b s.al ≠ b s'.al)
def VarOk (Sp : List VarSp) : Bool := Sp.all fun s => s.al != s.st && Sp.all fun s' => s.al != s'.st && s.st != s'.al && (s.al == s'.al) == (s.st == s'.st)
def varV (L : List Value) (als : List Nat) (b : Nat → Nat) (i : Nat) : Value := if als.contains i = true then .pointer (some ⟨b i, 0, none⟩) else L.getD i undef
section
variable {w1 c c' : World} {Sp : List VarSp} {b : Nat → Nat} {S : Nat → Bool} {i : Nat}
theorem VarW.start (w1 : World) (Sp : List VarSp) (b : Nat → Nat) : VarW w1 Sp b (fun _ => false) w1 := ⟨Below.refl _ _, fun s _ h => (by cases h), fun s _ s' _ _ h => (by cases h)⟩
theorem VarW.on (h : VarW w1 Sp b S c) (hb : Below c.heap.size c c') : VarW w1 Sp b S c' :=
  ⟨below_on h.1 hb, fun s hs hS => ⟨(h.2.1 s hs hS).1, (h.2.1 s hs hS).2.on hb⟩, h.2.2⟩
theorem VarW.keep (h : VarW w1 Sp b S c) (hi : (Sp.all fun s => s.al != i && s.st != i) = true) : VarW w1 Sp b (fun j => S j || j == i) c := by
  rw [List.all_eq_true] at hi
  have ea : ∀ s ∈ Sp, (S s.al || s.al == i) = S s.al ∧ (S s.st || s.st == i) = S s.st := fun s hs => by
    have := hi s hs
    simp at this
    simp [this.1, this.2]
  refine ⟨h.1, fun s hs hS => ?_, fun s hs s' hs' hne h1 h2 => h.2.2 s hs s' hs' hne (by rw [← (ea s hs).1]; exact h1) (by rw [← (ea s' hs').1]; exact h2)⟩
  show _ ∧ RowV c (b s.al) (if (S s.st || s.st == i) = true then s.u else s.z)
  rw [(ea s hs).2]
  exact h.2.1 s hs (by rw [← (ea s hs).1]; exact hS)
theorem VarW.new {s0 : VarSp} {g : Nat} (hok : VarOk Sp = true) (h : VarW w1 Sp b S c) (h0 : s0 ∈ Sp) (hi : s0.al = i) (hst : S s0.st = false) (hf : Fresh c c' g) (hr : RowV c' g s0.z) (hz : ∀ s ∈ Sp, s.al = s0.al → s.z = s0.z) :
    VarW w1 Sp (fun j => if j = i then g else b j) (fun j => S j || j == i) c' := by
  subst hi
  unfold VarOk at hok
  rw [List.all_eq_true] at hok
  have key : ∀ s ∈ Sp, (s.st == s0.al) = false ∧ (s.al = s0.al → s.st = s0.st) := fun s hs => by
    have h1 := hok s hs
    simp only [Bool.and_eq_true, List.all_eq_true] at h1
    have h2 := h1.2 s0 h0
    refine ⟨by simpa using h2.1.2, fun e => ?_⟩
    have h3 := h2.2
    simp [e] at h3
    first | exact h3 | exact h3.symm
  refine ⟨below_on h.1 hf.bw, fun s hs hS => ?_, fun s hs s' hs' hne h1 h2 => ?_⟩
  · show w1.heap.size ≤ (if s.al = s0.al then g else b s.al) ∧ RowV c' (if s.al = s0.al then g else b s.al) (if (S s.st || s.st == s0.al) = true then s.u else s.z)
    rw [(key s hs).1, Bool.or_false]
    by_cases e : s.al = s0.al
    · rw [if_pos e, (key s hs).2 e, hst]
      simp only [Bool.false_eq_true, if_false]
      rw [hz s hs e]
      exact ⟨hf.ge h.1, hr⟩
    · rw [if_neg e]
      have hS' : S s.al = true := by simpa [e] using hS
      exact ⟨(h.2.1 s hs hS').1, (h.2.1 s hs hS').2.on hf.bw⟩
  · show (if s.al = s0.al then g else b s.al) ≠ (if s'.al = s0.al then g else b s'.al)
    by_cases e : s.al = s0.al
    · have e' : s'.al ≠ s0.al := fun h => hne (e.trans h.symm)
      rw [if_pos e, if_neg e']
      have hS' : S s'.al = true := by simpa [e'] using h2
      exact ((h.2.1 s' hs' hS').2.ne hf).symm
    · rw [if_neg e]
      have hS' : S s.al = true := by simpa [e] using h1
      by_cases e' : s'.al = s0.al
      · rw [if_pos e']
        exact (h.2.1 s hs hS').2.ne hf
      · rw [if_neg e']
        have hS2 : S s'.al = true := by simpa [e'] using h2
        exact h.2.2 s hs s' hs' hne hS' hS2
theorem VarW.row {s0 : VarSp} (h : VarW w1 Sp b S c) (h0 : s0 ∈ Sp) (ha : S s0.al = true) (hst : S s0.st = false) : RowV c (b s0.al) s0.z := by
  have := (h.2.1 s0 h0 ha).2
  rw [hst] at this
  simpa using this
theorem VarW.fill {s0 : VarSp} (hok : VarOk Sp = true) (h : VarW w1 Sp b S c) (h0 : s0 ∈ Sp) (hi : s0.st = i) (ha : S s0.al = true) (hw : Wr c c' (b s0.al)) (hr : RowV c' (b s0.al) s0.u) (hz : ∀ s ∈ Sp, s.al = s0.al → s.u = s0.u) :
    VarW w1 Sp b (fun j => S j || j == i) c' := by
  subst hi
  unfold VarOk at hok
  rw [List.all_eq_true] at hok
  have key : ∀ s ∈ Sp, (s.al == s0.st) = false ∧ ((s.al == s0.al) = (s.st == s0.st)) := fun s hs => by
    have h1 := hok s hs
    simp only [Bool.and_eq_true, List.all_eq_true] at h1
    have h2 := h1.2 s0 h0
    exact ⟨by simpa using h2.1.1, by simpa using h2.2⟩
  refine ⟨Wr.bl h.1 hw (h.2.1 s0 h0 ha).1, fun s hs hS => ?_, fun s hs s' hs' hne h1 h2 => ?_⟩
  · have hS' : S s.al = true := by
      have h3 : (S s.al || s.al == s0.st) = true := hS
      rwa [(key s hs).1, Bool.or_false] at h3
    show _ ∧ RowV c' (b s.al) (if (S s.st || s.st == s0.st) = true then s.u else s.z)
    by_cases e : s.al = s0.al
    · have e2 : (s.st == s0.st) = true := by rw [← (key s hs).2]; simp [e]
      rw [e2, Bool.or_true, if_pos rfl, e, hz s hs e]
      exact ⟨(h.2.1 s0 h0 ha).1, hr⟩
    · have e2 : (s.st == s0.st) = false := by rw [← (key s hs).2]; simp [e]
      rw [e2, Bool.or_false]
      exact ⟨(h.2.1 s hs hS').1, (h.2.1 s hs hS').2.wr hw (h.2.2 s hs s0 h0 e hS' ha)⟩
  · have q1 : S s.al = true := by
      have h3 : (S s.al || s.al == s0.st) = true := h1
      rwa [(key s hs).1, Bool.or_false] at h3
    have q2 : S s'.al = true := by
      have h3 : (S s'.al || s'.al == s0.st) = true := h2
      rwa [(key s' hs').1, Bool.or_false] at h3
    exact h.2.2 s hs s' hs' hne q1 q2
end
theorem region_vars {P : Program} {ops : Array Oper} {Q : Exit → Act → World → Prop} {id : Nat} {w1 : World} (hm : P.follows .mixedOrders = true) (a0 : Act) (L : List Value) (als : List Nat) (Sp : List VarSp) (hB : setB2 ops a0.tmps.size = true)
    (hstep : ∀ (i : Nat) (o : Oper), ops[i]? = some o → ∀ (b : Nat → Nat) (S : Nat → Bool) (c : World) (a : Act), VarW w1 Sp b S c → S i = false → (∀ e ∈ o.after, Region.binds .any e = true → S e.on = true) → SlotsIn ops a0 S (varV L als b) a → Closed ops S →
      o.wp P a c (fun a' w' => (a' = a.put o.dst (varV L als b i) ∧ VarW w1 Sp b (fun j => S j || j == i) w') ∨ ∃ g, als.contains i = true ∧ a' = a.put o.dst (.pointer (some ⟨g, 0, none⟩)) ∧ VarW w1 Sp (fun j => if j = i then g else b j) (fun j => S j || j == i) w') Q)
    (hend : ∀ (b : Nat → Nat) (c : World) (S : Nat → Bool), (∀ j, j < ops.size → S j = true) → VarW w1 Sp b S c → Q .normal (putAll (varV L als b) 0 ops.toList a0) c) : (Code.region id ops true).wp P Q a0 w1 := by
  refine region_setX2 hm a0 (fun b => varV L als b) (fun b S c => VarW w1 Sp b S c) hB (fun _ => 0) ((VarW.start w1 Sp _).on (below_drewN _ _ 1)) ?_ (fun b c S hall hW => hend b c S hall hW)
  intro i o ho b S c a hW hSi hdep hS hC
  refine Oper.wp_mono ?_ (hstep i o ho b S c a hW hSi hdep hS hC)
  rintro a' w' (⟨e, h⟩ | ⟨g, hg, e, h⟩)
  · exact ⟨b, fun _ _ => rfl, e, h⟩
  · refine ⟨fun j => if j = i then g else b j, fun j hj => ?_, ?_, h⟩
    · have : j ≠ i := by rintro rfl; rw [hSi] at hj; cases hj
      simp [varV, this]
    · rw [e]
      unfold varV
      rw [if_pos hg]
      simp
end Go.Proofs.YtcapbojjceeapaaDoor
