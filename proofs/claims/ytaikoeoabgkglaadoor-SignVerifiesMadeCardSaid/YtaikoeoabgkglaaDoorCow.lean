/-
  What is proved here: the program's Compress, where state and block lie in memory and the table of its constants too: its plain laws (a copy of words onto a whole row, results that are words).
-/
import Derived.Test.YtaikoeoabgkglaaDoorCmp
namespace Go.Proofs.YtaikoeoabgkglaaDoor
open Go.RowKit
set_option linter.unusedVariables false

/-- a copy of words onto a whole row -/
theorem wpList_copy_words {P : Program} {w : World} {ops : Array Oper} {rest : List Oper} {o : Oper} {a : Act} {Q : Exit → Act → World → Prop} (hgd : o.guard = none) (d s : Operand) (dT sT : TypeId)
    (ho : o.op = .call { callee := .builtin .copy, args := #[d, s], argTypes := #[dT, sT] }) (elem : TypeId) (hu : P.underlying dT = some (.slice elem)) (hsz : (P.info? elem).map (·.size) = some 1)
    (g n cap c : Nat) (A : Option Addr) (l l2 : List UInt32) (p : Nat → Prop) (hd : a.eval d = .slice (some ⟨g, 0, none⟩) n cap) (hs : a.eval s = .slice A n c) (hn : l2.length = n) (hl : l.length = n) (h0 : 0 < n)
    (hg : RowW w g l) (hsee : SeesP w p A (Ws l2))
    (h : wpList P ops Q rest (a.put o.dst (goInt (Ws l2).length)) (w.setRow g (Ws l2).toArray)) : wpList P ops Q (o :: rest) a w := by
  obtain ⟨t, hg⟩ := hg
  rcases hsee with he | ⟨b, off, rfl, hp, hc⟩
  · have := congrArg List.length he; rw [Ws_length] at this; have e0 : ([] : List Value).length = 0 := rfl; omega
  · refine wpList_copy_own hgd d s dT sT ho elem hu hsz g 0 n cap ⟨b, off, none⟩ n c hd hs (Ws l).toArray t hg (Ws l2) (by rw [Ws_length, hn]; simp) (sees_src hc) (by rw [Ws_size, Ws_length]; omega) (Ws_one l2) ?_
    have e : (((Ws l).toArray.toList.take 0 ++ (Ws l2 ++ (Ws l).toArray.toList.drop (0 + (Ws l2).length))).toArray) = (Ws l2).toArray := by
      have : (Ws l).drop (Ws l2).length = [] := List.drop_eq_nil_of_le (by rw [Ws_length, Ws_length]; omega)
      simp [this]
    rw [e]
    exact h
/-- what Compress answers: words of the call's own and a code -/
def GivesW (w : World) (l : List UInt32) (er : Int) (e : Ending) (w' : World) : Prop :=
  ∃ A c, e = .returned (.tuple #[.slice A l.length c, .int .i64 er]) ∧ l.length ≤ c ∧ (A = none → c = 0) ∧ SeesP w' (fun b => w.heap.size ≤ b ∧ b < w'.heap.size) A (Ws l) ∧ Below w.heap.size w w'
theorem gives_row {w w' : World} {g c : Nat} {l : List UInt32} {er : Int} (h : RowW w' g l) (hg : w.heap.size ≤ g) (hc : l.length ≤ c) (hb : Below w.heap.size w w') {v : Value} (hv : v = .tuple #[.slice (some ⟨g, 0, none⟩) l.length c, .int .i64 er]) : GivesW w l er (.returned v) w' := by
  subst hv
  refine ⟨some ⟨g, 0, none⟩, c, rfl, hc, (fun e => by cases e), .inr ⟨g, 0, rfl, ⟨hg, h.lt⟩, fun j hj => ?_⟩, hb⟩
  rw [Ws_length] at hj
  rw [Nat.zero_add, h.cell hj, ws_get hj, getD_at hj]
theorem info_w : (Tryd.prog.info? 59).map (·.size) = some 1 := by kernel_rfl

end Go.Proofs.YtaikoeoabgkglaaDoor
