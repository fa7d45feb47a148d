/-
  What is proved here: what the statements' shallow and the program's nestedWithin return, for objects that lie in memory.
-/
import Derived.Test.YtipmmclahngabaaRows
import Derived.Test.YtipmmclahngabaaKit
import Derived.Test.YtipmmclahngabaaFoQ
import Derived.Test.YtipmmclahngabaaChk
namespace Go.Proofs.Ytipmmclahngabaa
open Go.RowKit
set_option linter.unusedVariables false

/-- whether objects are nested in at most so many levels and are at most so many at one place -/
def shN : F → Nat → Bool
  | .nil, _ => true
  | .cons _ v k r, d => (decide (v.length ≤ 5000) && (match d with | 0 => decide (k.len = 0) | d + 1 => decide (k.len ≤ 300) && shN k d)) && shN r d
def shB (f : F) : Nat → Bool
  | 0 => decide (f.len = 0)
  | d + 1 => decide (f.len ≤ 300) && shN f d
theorem shN_cons (t : Int) (v : List UInt8) (k r : F) (d : Nat) : shN (.cons t v k r) d = ((decide (v.length ≤ 5000) && shB k d) && shN r d) := by
  cases d <;> rfl
/-- levels -/
def F.dep : F → Nat
  | .nil => 0
  | .cons _ _ k r => max (k.dep + 1) r.dep
theorem shN_dep : ∀ (f : F) (d : Nat), shN f d = true → f.dep ≤ d + 1
  | .nil, d, _ => by simp [F.dep]
  | .cons t v k r, d, h => by
    rw [shN_cons, Bool.and_eq_true, Bool.and_eq_true] at h
    have h2 := shN_dep r d h.2
    have h1 : k.dep ≤ d := by
      cases d with
      | zero =>
        have : k.len = 0 := by simpa [shB] using h.1.2
        rw [F.len_zero this]; simp [F.dep]
      | succ d =>
        have h3 := h.1.2
        rw [shB, Bool.and_eq_true] at h3
        exact shN_dep k d h3.2
    simp only [F.dep]; omega
theorem shB_dep {f : F} {d : Nat} (h : shB f d = true) : f.dep ≤ d := by
  cases d with
  | zero =>
    have : f.len = 0 := by simpa [shB] using h
    rw [F.len_zero this]; simp [F.dep]
  | succ d =>
    rw [shB, Bool.and_eq_true] at h
    exact shN_dep f d h.2
theorem shN_sq : ∀ (f : F) (d : Nat), shN f d = true → f.sq
  | .nil, d, _ => trivial
  | .cons t v k r, d, h => by
    rw [shN_cons, Bool.and_eq_true, Bool.and_eq_true] at h
    refine ⟨by simpa using h.1.1, ?_, shN_sq r d h.2⟩
    cases d with
    | zero =>
      have : k.len = 0 := by simpa [shB] using h.1.2
      rw [F.len_zero this]; trivial
    | succ d =>
      have h3 := h.1.2
      rw [shB, Bool.and_eq_true] at h3
      exact shN_sq k d h3.2
theorem shB_sq {f : F} {d : Nat} (h : shB f d = true) : f.sq := by
  cases d with
  | zero =>
    have : f.len = 0 := by simpa [shB] using h
    rw [F.len_zero this]; trivial
  | succ d =>
    rw [shB, Bool.and_eq_true] at h
    exact shN_sq f d h.2

def IsB (b : Bool) (e : Ending) : Prop := e = .returned (.bool b)

set_option maxHeartbeats 1000000 in
theorem law_shallow : ∀ (d : Nat), d ≤ 100 → ∀ (f : F) (A : Option Addr) (c : Nat) (w : World) (p : Nat → Prop), f.len ≤ 140737488351232 → f.ok → (∀ g : F, g.size ≤ f.size → g.len ≤ 140737488351232) → SeesF w p A f →
    Calls Try.prog 16 #[.slice A f.len c, .int .i64 (d : Int)] w fun e w' => IsB (shB f d) e ∧ w' = w := by
  intro d
  induction d with
  | zero =>
    intro hd f A c w p hl hok hm hs
    have H : IsB (shB f 0) (.returned (.bool (decide (f.len = 0)))) := rfl
    clear hs hok hm
    by_cases h : f.len = 0
    · have e : decide (f.len = 0) = true := by simpa using h
      rw [e] at H
      rw [h]
      clear h e hl
      go_enter Try.func16, Try.ntmps16
      go_wp2
      go_ret
      exact ⟨H, rfl⟩
    · have e : decide (f.len = 0) = false := by simpa using h
      rw [e] at H
      have e2 : ((f.len : Int) == 0) = false := by simpa using h
      clear e
      go_enter Try.func16, Try.ntmps16
      go_wp2
      go_ret
      exact ⟨H, rfl⟩
  | succ d ih =>
    intro hd f A c w p hl hok hm hs
    obtain ⟨cs, s1, k1⟩ := hs
    have IH := Lib.hid (ih (by omega))
    have HS := Lib.hid s1
    have HO := Lib.hid (show f.ok ∧ HoldsP w p f cs from ⟨hok, k1⟩)
    have HM := Lib.hid hm
    have ed : ((d + 1 : Nat) : Int) = (d : Int) + 1 := by omega
    rw [ed]
    clear ed ih s1 k1 hok hm
    by_cases h3 : 300 < f.len
    · have d1 : decide ((300 : Int) < (f.len : Int)) = true := by simp; omega
      have H : IsB (shB f (d + 1)) (.returned (.bool false)) := by
        have : decide (f.len ≤ 300) = false := by simp; omega
        unfold IsB; rw [shB, this]; rfl
      have d0 : ((d : Int) + 1 == 0) = false := by simp; omega
      clear h3
      go_enter Try.func16, Try.ntmps16
      go_wp2
      go_ret
      exact ⟨H, rfl⟩
    · have d1 : decide ((300 : Int) < (f.len : Int)) = false := by simp; omega
      have HB : Hid (shB f (d + 1) = shN f d) := Lib.hid (by
        have : decide (f.len ≤ 300) = true := by simp; omega
        rw [shB, this, Bool.true_and])
      have d0 : ((d : Int) + 1 == 0) = false := by simp; omega
      clear h3
      go_enter Try.func16, Try.ntmps16
      go_wp2
      go_loop [5] (fun i => ∃ (k : Nat) (g : F), k + g.len = f.len ∧ i = .int .i64 (k : Int) ∧ Hid (g.ok ∧ g.size ≤ f.size ∧ HoldsP w p g (cs.drop (3 * k)) ∧ shN f d = shN g d)) (fun i => f.len - (intOf i).toNat)
      case atStart => exact ⟨0, f, by omega, rfl, Lib.hid ⟨HO.out.1, Nat.le_refl _, HO.out.2, rfl⟩⟩
      case round =>
        obtain ⟨k, g, hk, rfl, HG⟩ := hrel
        cases g with
        | nil =>
          have H : IsB (shB f (d + 1)) (.returned (.bool true)) := by unfold IsB; rw [HB.out, HG.out.2.2.2]; rfl
          have hk2 : k = f.len := hk
          have dk : decide ((k : Int) < (f.len : Int)) = false := by simp; omega
          clear hk HG
          go_wp2
          go_ret
          exact ⟨H, rfl⟩
        | cons t v kk r =>
          have hk1 : k + r.len + 1 = f.len := hk
          have hgs : kk.size + r.size + 1 ≤ f.size := HG.out.2.1
          have hv := HG.out.1.2.1
          obtain ⟨b, off, Av, cv, Ak, ck, rfl, hp, x0, x1, x2, sv, sk, hr, hnv⟩ := node_at HS.out HG.out.2.2.1
          have HN : Hid (shB f (d + 1) = ((decide (v.length ≤ 5000) && shB kk d) && shN r d)) := Lib.hid (by rw [HB.out, HG.out.2.2.2, shN_cons])
          have HR := Lib.hid (show r.ok ∧ HoldsP w p r (cs.drop (3 * (k + 1))) from ⟨HG.out.1.2.2.2, hr⟩)
          have HI := Lib.hid (IH.out kk Ak ck w p (HM.out kk (by omega)) HG.out.1.2.2.1 (fun g hg => HM.out g (by omega)) sk)
          have dk : decide ((k : Int) < (f.len : Int)) = true := by simp; omega
          have HW := Lib.hid HG.out.2.2.2
          clear hk HG hr sk sv hnv x0 hp HO
          by_cases h5 : 5000 < v.length
          · have d5 : decide ((5000 : Int) < (v.length : Int)) = true := by simp; omega
            have H : IsB (shB f (d + 1)) (.returned (.bool false)) := by
              have : decide (v.length ≤ 5000) = false := by simp; omega
              unfold IsB; rw [HN.out, this]; rfl
            clear h5 HI
            go_wp2
            go_ret
            exact ⟨H, rfl⟩
          · have d5 : decide ((5000 : Int) < (v.length : Int)) = false := by simp; omega
            have e5 : decide (v.length ≤ 5000) = true := by simp; omega
            rw [e5, Bool.true_and] at HN
            clear h5 e5
            by_cases hb : shB kk d = true
            · have HI2 := HI.out
              unfold IsB at HI2
              rw [hb] at HI2
              have HI3 := Lib.hid HI2
              have HE : Hid (shN f d = shN r d) := Lib.hid (by rw [← HB.out, HN.out, hb, Bool.true_and])
              clear hb HI HI2
              go_wp2_with (go_at_call 16; refine HI3.out.mono ?_; rintro e w' ⟨rfl, rfl⟩)
              go_round
              case rel => exact ⟨k + 1, r, by omega, by go_num, Lib.hid ⟨HR.out.1, by omega, HR.out.2, HE.out⟩⟩
              case measure => simp [intOf]; omega
            · have hb : shB kk d = false := by simpa using hb
              have HI2 := HI.out
              unfold IsB at HI2
              rw [hb] at HI2
              have HI3 := Lib.hid HI2
              have H : IsB (shB f (d + 1)) (.returned (.bool false)) := by unfold IsB; rw [HN.out, hb]; rfl
              clear hb HI HI2
              go_wp2_with (go_at_call 16; refine HI3.out.mono ?_; rintro e w' ⟨rfl, rfl⟩)
              go_ret
              exact ⟨H, rfl⟩

set_option maxHeartbeats 1000000 in
theorem nested_within : ∀ (n : Nat), n ≤ 65536 → ∀ (f : F) (A : Option Addr) (c : Nat) (w : World) (p : Nat → Prop), f.dep ≤ n → f.size ≤ 140737488351232 → SeesF w p A f →
    Calls Try.prog 47 #[.slice A f.len c, .int .i64 (n : Int)] w fun e w' => e = .returned (.bool true) ∧ w' = w := by
  intro n
  induction n with
  | zero =>
    intro hn f A c w p hd hl hs
    have e : f = .nil := by
      cases f with
      | nil => rfl
      | cons t v k r => simp only [F.dep] at hd; omega
    subst e
    clear hs hd hl
    go_enter Try.func47, Try.ntmps47
    go_wp2
    go_ret
    exact ⟨rfl, rfl⟩
  | succ n ih =>
    intro hn f A c w p hd hl hs
    obtain ⟨cs, s1, k1⟩ := hs
    have IH := Lib.hid (ih (by omega))
    have HS := Lib.hid s1
    have HO := Lib.hid (show HoldsP w p f cs from k1)
    have hlen := f.len_le_size
    have ed : ((n + 1 : Nat) : Int) = (n : Int) + 1 := by omega
    rw [ed]
    have d0 : ((n : Int) + 1 == 0) = false := by simp; omega
    clear ed ih s1 k1
    go_enter Try.func47, Try.ntmps47
    go_wp2
    go_loop [13] (fun i => ∃ (k : Nat) (g : F), k + g.len = f.len ∧ i = .int .i64 (k : Int) ∧ Hid (g.dep ≤ n + 1 ∧ g.size ≤ f.size ∧ HoldsP w p g (cs.drop (3 * k)))) (fun i => f.len - (intOf i).toNat)
    case atStart => exact ⟨0, f, by omega, rfl, Lib.hid ⟨hd, Nat.le_refl _, HO.out⟩⟩
    case round =>
      obtain ⟨k, g, hk, rfl, HG⟩ := hrel
      cases g with
      | nil =>
        have hk2 : k = f.len := hk
        have dk : decide ((k : Int) < (f.len : Int)) = false := by simp; omega
        clear hk HG
        go_wp2
        go_ret
        exact ⟨rfl, rfl⟩
      | cons t v kk r =>
        have hk1 : k + r.len + 1 = f.len := hk
        have hgs : kk.size + r.size + 1 ≤ f.size := HG.out.2.1
        have hgd : max (kk.dep + 1) r.dep ≤ n + 1 := HG.out.1
        obtain ⟨b, off, Av, cv, Ak, ck, rfl, hp, x0, x1, x2, sv, sk, hr, hnv⟩ := node_at HS.out HG.out.2.2
        have HR := Lib.hid (show HoldsP w p r (cs.drop (3 * (k + 1))) from hr)
        have HI := Lib.hid (IH.out kk Ak ck w p (by omega) (by omega) sk)
        have dk : decide ((k : Int) < (f.len : Int)) = true := by simp; omega
        clear hk HG hr sk sv hnv x0 x1 hp HO
        go_wp2_with (go_at_call 47; refine HI.out.mono ?_; rintro e w' ⟨rfl, rfl⟩)
        go_round
        case rel => exact ⟨k + 1, r, by omega, by go_num, Lib.hid ⟨by omega, by omega, HR.out⟩⟩
        case measure => simp [intOf]; omega

end Go.Proofs.Ytipmmclahngabaa
