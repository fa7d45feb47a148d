/-
  What is proved here: the maker of odd infos.
-/
import Derived.Test.YtcapbojjceeapaaDoorWJy
import Derived.Test.YtcapbojjceeapaaDoorWG9
namespace Go.Proofs.YtcapbojjceeapaaDoor
open Go.RowKit
set_option maxRecDepth 8000
set_option linter.unusedVariables false
set_option linter.unusedSimpArgs false
theorem append_ims {w : World} {ops : Array Oper} {rest : List Oper} {o : Oper} {a : Act} {Q : Exit → Act → World → Prop} (hgd : o.guard = none) (s x : Operand)
    (ho : o.op = .call { callee := .builtin .append, args := #[s, x], argTypes := #[22, 22] })
    (base : Nat) (i : TypeInfo) (hi : Tryd.prog.info? 44 = some i) (hz : i.zero = some (.agg zerX.toArray)) (hsize : i.size = 5) (hby : i.bytes = 40)
    (v : Value) (n : Nat) (L1 : List Im) (hs : a.eval s = v) (hown : w.ownsRow base 44 5 v n (Ics L1))
    (A : Option Addr) (m c : Nat) (L2 : List Im) (hm : L2.length = m) (hx : a.eval x = .slice A m c) (hn : A = none → c = 0) {p : Nat → Prop} (hc : SeesP w p A (Ics L2)) (hb : n + m ≤ 1000000) (hbase : base ≤ w.heap.size)
    (h : ∀ v' w', w'.ownsRow base 44 5 v' (n + m) (Ics (L1 ++ L2)) → w.grownBy w' v.ownBlock → wpList Tryd.prog ops Q rest (a.put o.dst v') w') : wpList Tryd.prog ops Q (o :: rest) a w := by
  rw [Ics_app] at h
  cases A with
  | none =>
    have h2 := hn rfl
    have h1 : Ics L2 = [] := hc.none_nil
    have h3 : m = 0 := by have := Ics_len L2; rw [h1] at this; simp at this; omega
    subst h2 h3
    exact wpList_append_own_none hgd s x 22 ho base 44 i 5 Tryd.underlying22 hi v n (Ics L1) hs hown hx (h v w (by rw [h1, List.append_nil]; exact hown) (World.grownBy.refl _ _))
  | some ad =>
    exact wpList_append_own w hgd s x 22 ho base 44 i _ 5 40 Tryd.underlying22 hi hz hsize hby rfl (by decide) v n (Ics L1) hs hown ad m c (Ics L2) hx (by rw [Ics_len]; omega) (hc.src ad rfl) (Ics_one L2) (by unfold maxLen; omega) (by omega) hbase fun v' w' h1 h2 _ => h v' w' h1 h2
def OddIs (w : World) (D : Nat) (e : Ending) (w' : World) : Prop := ∃ A c L, e = .returned (.slice A L.length c) ∧ L.length ≤ 2000 ∧ SeesP w' (newB w w') A (Ics L) ∧ w.grownBy w' (some D) ∧ DiceOk w' D
theorem OddIs.of {w w' : World} {D n : Nat} {v : Value} {L : List Im} (hn : L.length = n) (h2 : n ≤ 2000) (h : HeldI w w' v L) (hg : w.grownBy w' (some D)) (hd : DiceOk w' D) : OddIs w D (.returned v) w' := by
  obtain ⟨A, c, rfl, _, hs⟩ := HeldI.slice h
  exact ⟨A, c, L, rfl, by omega, hs, hg, hd⟩
def HelI (w : World) (L : List Im) (u : Value) (c : World) : Prop := HeldI w c u L
theorem HelI.firm (w : World) (L : List Im) : Firm (HelI w L) := fun u c c' h hb => HeldI.below h hb
def TwoX (wr : World) (x : Im) (u : Value) (c : World) : Prop := ∃ g, u = .slice (some ⟨g, 0, none⟩) 2 2 ∧ newB wr c g ∧ RowV c g (x.cs ++ x.cs)
theorem TwoX.firm (wr : World) (x : Im) : Firm (TwoX wr x) := by
  rintro u c c' ⟨g, h1, h2, h3⟩ hb
  exact ⟨g, h1, ⟨h2.1, Nat.lt_of_lt_of_le h2.2 hb.size⟩, h3.on hb⟩
end Go.Proofs.YtcapbojjceeapaaDoor
