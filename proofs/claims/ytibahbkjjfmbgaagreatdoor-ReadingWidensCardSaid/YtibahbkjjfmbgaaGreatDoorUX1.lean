/-
  What is proved here: plain facts on choices, for layer 12: the lists that take one member of each of some lists, in ascending order, are those by number; bytes in ascending order, each once.
-/
import Derived.Test.YtibahbkjjfmbgaaGreatDoorUA1
import Derived.Test.YtibahbkjjfmbgaaGreatDoorUZp
namespace Go.Proofs.YtibahbkjjfmbgaaGreatDoor
open Go.RowKit
set_option linter.unusedVariables false
section
variable {α : Type}
def prodL : List (List α) → List (List α)
 | [] => [[]]
 | s :: r => s.flatMap fun c => (prodL r).map fun q => c :: q
def sizeL : List (List α) → Nat
 | [] => 1
 | s :: r => s.length * sizeL r
end
def sortU (x : List UInt8) : List UInt8 := ((List.range 256).filter fun c => x.any fun b => b.toNat == c).map UInt8.ofNat
theorem mem_sortU {x : List UInt8} {b : UInt8} : b ∈ sortU x ↔ b ∈ x := by
 unfold sortU
 rw [List.mem_map]
 constructor
 · rintro ⟨c, hc, rfl⟩
   obtain ⟨h1, h2⟩ := List.mem_filter.1 hc
   rw [List.any_eq_true] at h2
   obtain ⟨a, ha, e⟩ := h2
   have e : a.toNat = c := by simpa using e
   rw [← e, UInt8.ofNat_toNat]
   exact ha
 · intro h
   exact ⟨b.toNat, List.mem_filter.2 ⟨List.mem_range.2 (UInt8.toNat_lt b), by rw [List.any_eq_true]; exact ⟨b, h, by simp⟩⟩, UInt8.ofNat_toNat⟩
def ascB (x : List UInt8) : Prop := x.Pairwise fun a b => a.toNat < b.toNat
theorem sortU_asc (x : List UInt8) : ascB (sortU x) := by
 unfold ascB sortU
 rw [List.pairwise_map]
 refine List.Pairwise.imp_of_mem ?_ ((List.pairwise_lt_range (n := 256)).filter _)
 intro a b ha hb hab
 have h1 := List.mem_range.1 (List.mem_filter.1 ha).1
 have h2 := List.mem_range.1 (List.mem_filter.1 hb).1
 rw [UInt8.toNat_ofNat', UInt8.toNat_ofNat', Nat.mod_eq_of_lt h1, Nat.mod_eq_of_lt h2]
 exact hab
theorem asc_eq : ∀ {x y : List UInt8}, ascB x → ascB y → (∀ b, b ∈ x ↔ b ∈ y) → x = y
 | [], [], _, _, _ => rfl
 | [], b :: y, _, _, h => absurd ((h b).2 (List.mem_cons_self ..)) (by simp)
 | a :: x, [], _, _, h => absurd ((h a).1 (List.mem_cons_self ..)) (by simp)
 | a :: x, b :: y, hx, hy, h => by
  have hx' := List.pairwise_cons.1 hx
  have hy' := List.pairwise_cons.1 hy
  have e : a = b := by
   rcases List.mem_cons.1 ((h a).1 (List.mem_cons_self ..)) with h1 | h1
   · exact h1
   · rcases List.mem_cons.1 ((h b).2 (List.mem_cons_self ..)) with h2 | h2
     · exact h2.symm
     · have := hy'.1 a h1
       have := hx'.1 b h2
       omega
  subst e
  refine congrArg (a :: ·) (asc_eq hx'.2 hy'.2 fun c => ⟨fun hc => ?_, fun hc => ?_⟩)
  · rcases List.mem_cons.1 ((h c).1 (List.mem_cons_of_mem _ hc)) with h1 | h1
    · subst h1; exact absurd (hx'.1 c hc) (by omega)
    · exact h1
  · rcases List.mem_cons.1 ((h c).2 (List.mem_cons_of_mem _ hc)) with h1 | h1
    · subst h1; exact absurd (hy'.1 c hc) (by omega)
    · exact h1
theorem sortU_fix {x : List UInt8} (h : ascB x) : sortU x = x := asc_eq (sortU_asc x) h fun b => mem_sortU
theorem sortU_nil {x : List UInt8} : sortU x = [] ↔ x = [] := by
 constructor
 · intro h
   rcases x with _ | ⟨a, r⟩
   · rfl
   · have := mem_sortU.2 (List.mem_cons_self (a := a) (l := r))
     rw [h] at this; simp at this
 · rintro rfl
   exact sortU_fix List.Pairwise.nil
def sufL : List (List (List UInt8)) → List (List (List UInt8))
 | [] => [[]]
 | r :: rs => (prodL r).flatMap fun q => (sufL rs).map fun t => q :: t
def sizeS : List (List (List UInt8)) → Nat
 | [] => 1
 | r :: rs => sizeL r * sizeS rs
def dst (L : List (List (List UInt8))) : List (List (List UInt8)) := L.map fun r => r.map sortU
def xL (L : List (List (List UInt8))) : List (List UInt8) := L.map fun r => r.map fun _ => 120
def cmplL (L : List (List (List UInt8))) : Bool := (shapeL (xL L) != 0) && L.all fun r => r.all fun s => s != []
def cntE (L : List (List (List UInt8))) : Int := if cmplL L = false then 1 else if 4096 < sizeS (dst L) then 24 else 0
def cntV (L : List (List (List UInt8))) : Nat := if cntE L = 0 then sizeS (dst L) else 0
def chsL (L : List (List (List UInt8))) : List (List (List UInt8)) := sufL (dst L)
def rdL (L : List (List (List UInt8))) : List (List (List UInt8)) := (chsL L).filter fun x => parE x == 0
def onlE (L : List (List (List UInt8))) : Int := if cntE L ≠ 0 then cntE L else if (rdL L).length = 0 then 16 else if (rdL L).length = 1 then 0 else 25
def onlL (L : List (List (List UInt8))) : List (List UInt8) := if onlE L = 0 then (rdL L).getD 0 [] else []
theorem sizeL_pos : ∀ {r : List (List UInt8)}, (∀ s ∈ r, s ≠ []) → 0 < sizeL r
 | [], _ => Nat.one_pos
 | s :: r, h => Nat.mul_pos (List.length_pos_iff.2 (h s (List.mem_cons_self ..))) (sizeL_pos fun t ht => h t (List.mem_cons_of_mem _ ht))
theorem sizeS_pos : ∀ {rs : List (List (List UInt8))}, (∀ r ∈ rs, ∀ s ∈ r, s ≠ []) → 0 < sizeS rs
 | [], _ => Nat.one_pos
 | r :: rs, h => Nat.mul_pos (sizeL_pos (h r (List.mem_cons_self ..))) (sizeS_pos fun t ht => h t (List.mem_cons_of_mem _ ht))
theorem sizeL_append : ∀ (p r : List (List UInt8)), sizeL (p ++ r) = sizeL p * sizeL r
 | [], r => by simp [sizeL]
 | s :: p, r => by show s.length * sizeL (p ++ r) = s.length * sizeL p * sizeL r; rw [sizeL_append p r, Nat.mul_assoc]
theorem sizeS_append : ∀ (p r : List (List (List UInt8))), sizeS (p ++ r) = sizeS p * sizeS r
 | [], r => by simp [sizeS]
 | s :: p, r => by show sizeL s * sizeS (p ++ r) = sizeL s * sizeS p * sizeS r; rw [sizeS_append p r, Nat.mul_assoc]
theorem mem_suf : ∀ {rs : List (List (List UInt8))} {x : List (List UInt8)}, x ∈ sufL rs ↔ x.length = rs.length ∧ ∀ i, i < rs.length → x.getD i [] ∈ prodL (rs.getD i [])
 | [], x => by
  simp only [sufL, List.mem_singleton, List.length_nil]
  exact ⟨fun h => by subst h; exact ⟨rfl, fun k hk => absurd hk (by omega)⟩, fun h => List.eq_nil_of_length_eq_zero h.1⟩
 | r :: rs, x => by
  simp only [sufL, List.mem_flatMap, List.mem_map]
  constructor
  · rintro ⟨c, hc, t, ht, rfl⟩
    obtain ⟨h1, h2⟩ := mem_suf.1 ht
    refine ⟨by simp [h1], fun k hk => ?_⟩
    rcases k with _ | k
    · simpa using hc
    · simpa using h2 k (by simpa using hk)
  · rintro ⟨h1, h2⟩
    rcases x with _ | ⟨c, t⟩
    · simp at h1
    · refine ⟨c, by simpa using h2 0 (by simp), t, mem_suf.2 ⟨by simpa using h1, fun k hk => ?_⟩, rfl⟩
      simpa using h2 (k + 1) (by simpa using hk)
end Go.Proofs.YtibahbkjjfmbgaaGreatDoor
