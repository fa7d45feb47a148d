/-
  What is proved here: what the program's Compress answers, for a state and a block that lie in memory, where the table of its constants lies there too.
-/
import Derived.Test.YtlcenfjpfnldlaaDoorCmp
namespace Go.Proofs.YtlcenfjpfnldlaaDoor
open Go.RowKit
set_option linter.unusedVariables false

/-- a copy of words onto a whole row -/
theorem wpList_copy_words {P : Program} {w : World} {ops : Array Oper} {rest : List Oper} {o : Oper} {a : Act} {Q : Exit → Act → World → Prop} (hgd : o.guard = none) (d s : Operand) (dT sT : TypeId)
    (ho : o.op = .call { callee := .builtin .copy, args := #[d, s], argTypes := #[dT, sT] }) (elem : TypeId) (hu : P.underlying dT = some (.slice elem)) (hsz : (P.info? elem).map (·.size) = some 1)
    (g n cap c : Nat) (A : Option Addr) (l l2 : List UInt32) (p : Nat → Prop) (hd : a.eval d = .slice (some ⟨g, 0, none⟩) n cap) (hs : a.eval s = .slice A n c) (hn : l2.length = n) (hl : l.length = n) (h0 : 0 < n)
    (hg : RowW w g l) (hsee : SeesP w p A (Ws l2))
    (h : wpList P ops Q rest (a.put o.dst (goInt (Ws l2).length)) (w.setRow g (Ws l2).toArray)) : wpList P ops Q (o :: rest) a w := by
  obtain ⟨t, hg⟩ := hg
  rcases hsee with he | ⟨b, off, rfl, hp, hc⟩
  · have := congrArg List.length he; rw [Ws_length] at this; have e0 : ([] : List Value).length = 0 := rfl; omega
  · refine wpList_copy_own hgd d s dT sT ho elem hu hsz g 0 n cap ⟨b, off, none⟩ n c hd hs (Ws l).toArray t hg (Ws l2) (by rw [Ws_length, hn]; simp) (sees_src hc) (by rw [Ws_size, Ws_length]; omega) (Ws_one l2) ?_
    have e : (((Ws l).toArray.toList.take 0 ++ (Ws l2 ++ (Ws l).toArray.toList.drop (0 + (Ws l2).length))).toArray) = (Ws l2).toArray := by
      have : (Ws l).drop (Ws l2).length = [] := List.drop_eq_nil_of_le (by rw [Ws_length, Ws_length]; omega)
      simp [this]
    rw [e]
    exact h
/-- what Compress answers: words of the call's own and a code -/
def GivesW (w : World) (l : List UInt32) (er : Int) (e : Ending) (w' : World) : Prop :=
  ∃ A c, e = .returned (.tuple #[.slice A l.length c, .int .i64 er]) ∧ l.length ≤ c ∧ (A = none → c = 0) ∧ SeesP w' (fun b => w.heap.size ≤ b ∧ b < w'.heap.size) A (Ws l) ∧ Below w.heap.size w w'
theorem gives_row {w w' : World} {g c : Nat} {l : List UInt32} {er : Int} (h : RowW w' g l) (hg : w.heap.size ≤ g) (hc : l.length ≤ c) (hb : Below w.heap.size w w') {v : Value} (hv : v = .tuple #[.slice (some ⟨g, 0, none⟩) l.length c, .int .i64 er]) : GivesW w l er (.returned v) w' := by
  subst hv
  refine ⟨some ⟨g, 0, none⟩, c, rfl, hc, (fun e => by cases e), .inr ⟨g, 0, rfl, ⟨hg, h.lt⟩, fun j hj => ?_⟩, hb⟩
  rw [Ws_length] at hj
  rw [Nat.zero_add, h.cell hj, ws_get hj, getD_at hj]
theorem info_w : (Tryd.prog.info? 34).map (·.size) = some 1 := by kernel_rfl

theorem compress_bad (A1 A2 : Option Addr) (n1 n2 c1 c2 : Nat) (w : World) (h : n1 ≠ 8 ∨ n2 ≠ 64) (hn1 : n1 ≤ 140737488351232) (hn2 : n2 ≤ 140737488351232) :
    Calls Tryd.prog 12 #[.slice A1 n1 c1, .slice A2 n2 c2] w (GivesW w [] 2) := by
  have hg : GivesW w [] 2 (.returned (.tuple #[.slice none 0 0, .int .i64 2])) w := ⟨none, 0, rfl, by simp, fun _ => rfl, .inl rfl, Below.refl _ _⟩
  have H := Lib.hid hg
  clear hg
  by_cases h1 : n1 = 8
  · have h2 : n2 ≠ 64 := by omega
    subst h1
    clear h
    have d2 : ((n2 : Int) != 64) = true := by simp; omega
    have d3 : ((n2 : Int) == 64) = false := by simp; omega
    go_enter Tryd.func12, Tryd.ntmps12
    go_wp2
    go_ret2
    exact H.out
  · have d2 : ((n1 : Int) != 8) = true := by simp; omega
    have d3 : ((n1 : Int) == 8) = false := by simp; omega
    clear h
    go_enter Tryd.func12, Tryd.ntmps12
    go_wp2
    go_ret2
    exact H.out

set_option maxHeartbeats 1000000 in
theorem compress_good (st : List UInt32) (b : List UInt8) (A1 A2 : Option Addr) (c1 c2 : Nat) (w : World) (h1 : st.length = 8) (h2 : b.length = 64) (hs1 : SeesP w (· < w.heap.size) A1 (Ws st)) (hs2 : SeesP w (· < w.heap.size) A2 (Us b)) (ht : TabP w) :
    Calls Tryd.prog 12 #[.slice A1 8 c1, .slice A2 64 c2] w (GivesW w (comp st b) 0) := by
  have H := Lib.hid (show _ ∧ _ ∧ _ ∧ _ ∧ _ from ⟨h1, h2, hs1, hs2, ht⟩)
  clear h1 h2 hs1 hs2 ht
  have b1 : ∀ o, Below w.heap.size w (w.alloc o) := fun o => (Below.refl _ w).alloc (Nat.le_refl _) o
  have B1 := Lib.hid b1
  clear b1
  obtain ⟨l, hl⟩ : ∃ l, l = comp st b := ⟨_, rfl⟩
  have HL := Lib.hid (show l = comp st b ∧ l.length = 8 from ⟨hl, by rw [hl]; exact comp_length _ _⟩)
  clear hl
  go_enter Tryd.func12, Tryd.ntmps12
  go_wp2_with (first
    | (refine wpList_copy_words rfl (.tmp 16) (.tmp 17) 27 27 rfl 34 Tryd.underlying27 info_w w.heap.size 8 8 c1 A1 (List.replicate 8 0) st (· < w.heap.size) rfl rfl H.out.1 (by decide) (by decide) (RowW.new rfl) (H.out.2.2.1.keep fun q hq => (B1.out _).cell hq) ?_; generalize hW : (World.setRow (World.alloc w _) w.heap.size (Ws st).toArray) = w2; have HS : Hid (Below w.heap.size w w2 ∧ RowW w2 w.heap.size st) := (by subst hW; exact Lib.hid ⟨below_setRow (B1.out _) (Nat.le_refl _) _, (RowW.new (l := List.replicate 8 0) rfl).row _⟩); clear hW)
    | (refine wpList_load_words rfl 39 (.tmp 6) rfl w.heap.size st 8 34 rfl HS.out.2 Tryd.underlying39 (by rw [H.out.1]; exact info_8) ?_)
    | (go_at_call 19; (with_reducible refine (compress_any st b A2 c2 _ H.out.1 H.out.2.1 ?_ ?_).mono ?_); exact (H.out.2.2.2.1.keep fun q hq => HS.out.1.cell hq).imp (fun q hq => Nat.lt_of_lt_of_le hq HS.out.1.size); exact H.out.2.2.2.2.below HS.out.1; rintro e w3 ⟨rfl, hb3⟩; rw [← HL.out.1])
    | (refine wpList_store_row rfl 39 (.tmp 7) (.tmp 21) rfl w3.heap.size (List.replicate 8 0) l rfl rfl (RowW.new rfl) (by rw [HL.out.2]; rfl) (by rw [HL.out.2]; exact info_8) ?_; generalize hW : (World.setRow (World.alloc w3 _) w3.heap.size (Ws l).toArray) = w4; have HS4 : Hid (Below w.heap.size w w4 ∧ RowW w4 w3.heap.size l ∧ w.heap.size ≤ w3.heap.size) := (by subst hW; have hs3 := Nat.le_trans HS.out.1.size hb3.size; exact Lib.hid ⟨below_setRow ((HS.out.1.trans (hb3.mono HS.out.1.size)).alloc hs3 _) hs3 _, (RowW.new (l := List.replicate 8 0) rfl).row _, hs3⟩); clear hW hb3))
  go_ret2
  have e8 := HL.out.2
  rw [← HL.out.1]
  exact gives_row (g := w3.heap.size) (c := 8) HS4.out.2.1 HS4.out.2.2 (by omega) HS4.out.1 (by rw [e8]; rfl)

end Go.Proofs.YtlcenfjpfnldlaaDoor
