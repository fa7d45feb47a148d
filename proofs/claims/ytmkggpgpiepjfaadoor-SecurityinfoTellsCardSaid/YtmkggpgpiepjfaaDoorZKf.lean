/-
  What is proved here: what is missing of valid infos when one is taken away (without a program).
-/
import Derived.Test.YtmkggpgpiepjfaaDoorZKd
import Derived.Test.YtmkggpgpiepjfaaDoorZKb
namespace Go.Proofs.YtmkggpgpiepjfaaDoor
open Go.RowKit
set_option maxRecDepth 8000
set_option linter.unusedVariables false
set_option linter.unusedSimpArgs false
theorem beh_irr (x : Im) : behB x x = false := by simp [behB]
theorem beh_trans {a b c : Im} (h1 : behB b a = true) (h2 : behB c b = true) : behB c a = true := by
  simp only [behB, Bool.or_eq_true, Bool.and_eq_true, decide_eq_true_eq] at h1 h2 ⊢
  omega
theorem chk_head : ∀ {l : List Im} {a : Im}, chkI (some a) l = 0 → ∀ y ∈ l, behB y a = true
  | [], _, _, y, hy => by cases hy
  | x :: r, a, h, y, hy => by
    unfold chkI at h
    split at h
    · rename_i e; exact absurd h e
    · split at h
      · cases h
      · rename_i e
        have hx : behB x a = true := by simpa [ordB] using e
        rcases List.mem_cons.1 hy with rfl | hy
        · exact hx
        · exact beh_trans hx (chk_head h y hy)
theorem chk_pair : ∀ {l : List Im} {q : Option Im}, chkI q l = 0 → l.Pairwise fun a b => behB b a = true
  | [], _, _ => List.Pairwise.nil
  | x :: r, q, h => by
    unfold chkI at h
    split at h
    · rename_i e; exact absurd h e
    · split at h
      · cases h
      · exact List.Pairwise.cons (fun y hy => chk_head h y hy) (chk_pair h)
theorem misB_in {a : List Im} {x : Im} (h : x ∈ a) : misB a x = false := by
  unfold misB
  rw [List.any_eq_true.2 ⟨x, h, eqI_iff.2 rfl⟩]
  simp
theorem misI_self (l : List Im) : misI l l = [] := by
  unfold misI
  rw [List.filter_eq_nil_iff]
  intro x hx
  rw [misB_in hx]
  decide
theorem misI_less {l : List Im} (h : vaE l = 0) {k : Nat} {x : Im} (hk : l[k]? = some x) : misI (l.take k ++ l.drop (k + 1)) l = if pwB x.p = true then [x] else [] := by
  have hlt := (List.getElem?_eq_some_iff.1 hk).1
  have hx : l[k] = x := (List.getElem?_eq_some_iff.1 hk).2
  have hsp : l = l.take k ++ x :: l.drop (k + 1) := by
    conv => lhs; rw [← List.take_append_drop k l]
    rw [List.drop_eq_getElem_cons hlt, hx]
  have hp := chk_pair (vaE_none h).2
  rw [hsp] at hp
  obtain ⟨h1, h2, h3⟩ := List.pairwise_append.1 hp
  have h4 := (List.pairwise_cons.1 h2).1
  have ht : x ∉ l.take k := fun hm => by
    have := h3 x hm x (List.mem_cons_self ..)
    rw [beh_irr] at this; cases this
  have hd : x ∉ l.drop (k + 1) := fun hm => by
    have := h4 x hm
    rw [beh_irr] at this; cases this
  have hno : (l.take k ++ l.drop (k + 1)).any (eqI x) = false := by
    rw [List.any_eq_false]
    intro y hy e
    have e2 : x = y := eqI_iff.1 e
    subst e2
    rcases List.mem_append.1 hy with hy | hy
    · exact ht hy
    · exact hd hy
  have hone : misB (l.take k ++ l.drop (k + 1)) x = pwB x.p := by
    unfold misB
    rw [hno]
    simp
  unfold misI
  obtain ⟨op, hop⟩ : ∃ z, l.take k ++ l.drop (k + 1) = z := ⟨_, rfl⟩
  rw [hop] at hone ⊢
  rw [hsp, List.filter_append]
  have f1 : (l.take k).filter (misB op) = [] := List.filter_eq_nil_iff.2 fun y hy => by
    rw [misB_in (by rw [← hop]; exact List.mem_append_left _ hy)]; decide
  have f2 : (l.drop (k + 1)).filter (misB op) = [] := List.filter_eq_nil_iff.2 fun y hy => by
    rw [misB_in (by rw [← hop]; exact List.mem_append_right _ hy)]; decide
  rw [f1, List.nil_append, List.filter_cons, hone, f2]
end Go.Proofs.YtmkggpgpiepjfaaDoor
