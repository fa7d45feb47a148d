/-
  What is proved here: a law for a range over an iterator that hands over slices of lines, keeps blocks of its own and turns them between two rounds; the body may leave early. Nothing of the program is used.
-/
import Derived.Test.YtibahbkjjfmbgaaGreatDoorUY3
import Derived.RangeFuncNested
import Derived.RangeFuncBound
import Derived.RangeFuncCalls
import Derived.RangeFuncLeaves
import Derived.Shelf.Abstract
import Derived.Shelf.RegionOpen
import Derived.OwnWalkIn
import Derived.TacticsInMore
import Derived.LoopNIn
import Derived.LoopIn
import Derived.OrdersHeld
namespace Go.Proofs.YtibahbkjjfmbgaaGreatDoor
open Go.RowKit Go.Shelf
set_option linter.unusedVariables false
section
variable {P : Program} {l n : Nat} {ops : Array Oper} {Q : Exit → Act → World → Prop} {md : Region.Mode}
theorem calls_round {f : FuncId} {args : Array Value} {w : World} {R : Ending → World → Prop} (m : Nat) (h : Calls P f args w R) : CallsIn (Fence.wide.inRound l) m P f args w R :=
 CallsIn.inRound l (callsIn_wide.2 h)
theorem callsIn_any {f : FuncId} {args : Array Value} {w : World} {R : Ending → World → Prop} {m : Nat} (m2 : Nat) (h : CallsIn Fence.wide m P f args w R) : CallsIn Fence.wide m2 P f args w R :=
 callsIn_wide.2 (callsIn_wide.1 h)
theorem round_any {l2 : Nat} {f : FuncId} {tmps : Array Value} {assign body : Code} {w : World} {R : Ending → World → Prop} {m : Nat} (m2 : Nat) (h : RoundIn Fence.wide m P l f tmps assign body w R) : RoundIn (Fence.wide.inRound l2) m2 P l f tmps assign body w R :=
 ⟨trivial, fun c cs _ => h.2 c cs (room_wide _)⟩
theorem round_wide {f : FuncId} {tmps : Array Value} {assign body : Code} {w : World} {R : Ending → World → Prop} {m : Nat} (m2 : Nat) (h : RoundIn Fence.wide m P l f tmps assign body w R) : RoundIn Fence.wide m2 P l f tmps assign body w R :=
 ⟨trivial, fun c cs _ => h.2 c cs (room_wide _)⟩
theorem rows_round {row : String} {args : Array Value} {w : World} {R : Value → World → Prop} (m : Nat) (h : Rows P row args w R) : RowsIn (Fence.wide.inRound l) m P row args w R :=
 fun c cs _ => let ⟨v, w', r, s⟩ := h c cs; ⟨v, w', r, stepsIn_wide.2 s⟩
end
def Turns (lo hi : Nat) (X Y : World) : Prop := Below lo X Y ∧ ∀ q, hi ≤ q → q < X.heap.size → Y.heap[q]? = X.heap[q]?
def Keeps (lo hi : Nat) (X Y : World) : Prop := X.heap.size ≤ Y.heap.size ∧ ∀ q, lo ≤ q → q < hi → q < X.heap.size → Y.heap[q]? = X.heap[q]?
theorem Turns.refl (lo hi : Nat) (X : World) : Turns lo hi X X := ⟨Below.refl _ _, fun _ _ _ => rfl⟩
theorem Turns.trans {lo hi : Nat} {X Y Z : World} (h : Turns lo hi X Y) (k : Turns lo hi Y Z) : Turns lo hi X Z := ⟨h.1.trans k.1, fun q h1 h2 => (k.2 q h1 (Nat.lt_of_lt_of_le h2 h.1.size)).trans (h.2 q h1 h2)⟩
theorem Turns.of_below {lo hi : Nat} {X Y : World} (h : Below X.heap.size X Y) (hl : lo ≤ X.heap.size) : Turns lo hi X Y := ⟨h.mono hl, fun q _ h2 => h.block q h2⟩
theorem Turns.mono {lo lo2 hi hi2 : Nat} {X Y : World} (h : Turns lo hi X Y) (h1 : lo2 ≤ lo) (h2 : hi ≤ hi2) : Turns lo2 hi2 X Y := ⟨h.1.mono h1, fun q h3 h4 => h.2 q (Nat.le_trans h2 h3) h4⟩
theorem Turns.putObj {lo hi q : Nat} {X : World} (o : Obj) (h1 : lo ≤ q) (h2 : q < hi) : Turns lo hi X (X.putObj q o) :=
 ⟨⟨rfl, rfl, rfl, by simp, fun k hk => World.putObj_heap_other (by omega)⟩, fun k hk _ => World.putObj_heap_other (by omega)⟩
theorem Turns.setCell {lo hi : Nat} {X : World} {a : Addr} (u : Value) (h1 : lo ≤ a.block) (h2 : a.block < hi) : Turns lo hi X (X.setCell a u) :=
 ⟨⟨rfl, rfl, rfl, by simp [World.setCell], fun k hk => heap_setCell_other X a k u (by omega)⟩, fun k hk _ => heap_setCell_other X a k u (by omega)⟩
theorem Keeps.refl (lo hi : Nat) (X : World) : Keeps lo hi X X := ⟨Nat.le_refl _, fun _ _ _ _ => rfl⟩
theorem Keeps.trans {lo hi : Nat} {X Y Z : World} (h : Keeps lo hi X Y) (k : Keeps lo hi Y Z) : Keeps lo hi X Z := ⟨Nat.le_trans h.1 k.1, fun q h1 h2 h3 => (k.2 q h1 h2 (Nat.lt_of_lt_of_le h3 h.1)).trans (h.2 q h1 h2 h3)⟩
theorem Keeps.of_below {lo hi : Nat} {X Y : World} (h : Below X.heap.size X Y) : Keeps lo hi X Y := ⟨h.size, fun q _ _ h3 => h.block q h3⟩
theorem Keeps.mono {lo lo2 hi hi2 : Nat} {X Y : World} (h : Keeps lo hi X Y) (h1 : lo ≤ lo2) (h2 : hi2 ≤ hi) : Keeps lo2 hi2 X Y := ⟨h.1, fun q h3 h4 h5 => h.2 q (Nat.le_trans h1 h3) (Nat.lt_of_lt_of_le h4 h2) h5⟩
theorem Keeps.setCell {lo hi : Nat} {X : World} {a : Addr} (u : Value) (h : a.block < lo ∨ hi ≤ a.block) : Keeps lo hi X (X.setCell a u) :=
 ⟨by simp [World.setCell], fun q h1 h2 _ => heap_setCell_other X a q u (by omega)⟩
def SeqX (P : Program) (gf : Nat) (lb : Array Value) (xs : List (List (List UInt8))) (Rd : World → Prop) (w0 : World) : Prop :=
 ∀ (l : Nat) (J Jx : Nat → List (List (List UInt8)) → World → Prop) (W : World), Below w0.heap.size w0 W →
  (∀ hi s X Y, J hi s X → Turns W.heap.size hi X Y → J hi s Y) → (∀ hi s X Y, Jx hi s X → Turns W.heap.size hi X Y → Jx hi s Y) → (∀ hi s X, J hi s X → Rd X) →
  (∀ hi pre x g X, J hi pre X → W.heap.size ≤ hi → hi ≤ g → pre ++ [x] <+: xs → RowV X g (strV x) →
   YieldAt Fence.wide 5 P l #[.slice (some ⟨g, 0, none⟩) x.length x.length] X fun e Y => Keeps W.heap.size hi X Y ∧ ((e = .returned (.bool true) ∧ J hi (pre ++ [x]) Y) ∨ (e = .returned (.bool false) ∧ Jx hi (pre ++ [x]) Y))) →
  (∀ hi X, Below W.heap.size W X → W.heap.size ≤ hi → hi ≤ X.heap.size → J hi [] X) →
  CallsIn Fence.wide 5 P gf (#[.func (.yield l) #[] #[]] ++ lb) W fun e W' => (∃ v, e = .returned v) ∧ ∃ hi, W.heap.size ≤ hi ∧ (J hi xs W' ∨ ∃ pre, pre <+: xs ∧ Jx hi pre W')
def postX (b hi : Nat) (I : Nat → List (List (List UInt8)) → World → Prop) (Ix : Nat → List (List (List UInt8)) → World → Prop) (xs : List (List (List UInt8))) (W : World) : Exit → Act → World → Prop
 | .normal, _, W' => Keeps b hi W W' ∧ I hi xs W'
 | .ret, _, W' => Keeps b hi W W' ∧ Ix hi xs W'
 | _, _, _ => False
theorem range_x {P : Program} {n : Nat} {g : Operand} {ps : Array Tmp} {assign body : Code} {Q : Exit → Act → World → Prop} {a : Act} {w : World}
 {gf : Nat} {lb : Array Value} {xs : List (List (List UInt8))} {Rd : World → Prop} {w0 : World} (hseq : SeqX P gf lb xs Rd w0) (hw0 : Below w0.heap.size w0 w)
 (hg : a.eval g = .func (.func gf) #[] lb) (eg : ∀ args w, (callFunc gf args).run P w = .ok (.enter gf args) w) (hps : ps.size = 1)
 (I Ix : Nat → List (List (List UInt8)) → World → Prop)
 (hI : ∀ hi s X Y, I hi s X → w.heap.size < hi → Turns w.heap.size hi X Y → I hi s Y) (hIx : ∀ hi s X Y, Ix hi s X → w.heap.size < hi → Turns w.heap.size hi X Y → Ix hi s Y) (hR : ∀ hi s X, I hi s X → Rd X)
 (h0 : ∀ hi X, Below w.heap.size w X → w.heap.size + 2 ≤ hi → hi ≤ X.heap.size → I hi [] X)
 (a₁ : List (List UInt8) → Nat → Act)
 (hassign : ∀ (l gg : Nat) (x : List (List UInt8)) (W : World) (K : Act → World → Prop), K (a₁ x gg) W →
  assign.wpIn (Fence.wide.inRound l) 5 P (Exit.then K (fun _ _ _ => False)) { tmps := (ps.zip #[.slice (some ⟨gg, 0, none⟩) x.length x.length]).foldl (fun t (p, v) => t.setIfInBounds p v) a.tmps, defers := [] } W)
 (hbody : ∀ (l hi : Nat) (pre : List (List (List UInt8))) (x : List (List UInt8)) (gg : Nat) (W : World), I hi pre W → w.heap.size + 2 ≤ hi → hi ≤ gg → pre ++ [x] <+: xs → RowV W gg (strV x) →
  body.wpIn (Fence.wide.inRound l) 5 P (postX w.heap.size hi I Ix (pre ++ [x]) W) (a₁ x gg) W)
 (hdone : ∀ (hi D : Nat) (W : World), w.heap.size ≤ D → D < hi → I hi xs W → W.heap[D]? = some (.deferred (some [])) → Q .normal { a with defers := { target := .collected D, args := #[] } :: a.defers } W)
 (hstop : ∀ (hi D : Nat) (pre : List (List (List UInt8))) (W : World), w.heap.size ≤ D → D < hi → pre <+: xs → Ix hi pre W → W.heap[D]? = some (.deferred (some [])) → Code.wpIn Fence.wide n P .ret Q { a with defers := { target := .collected D, args := #[] } :: a.defers } W) :
 (Code.rangeFunc g ps assign body).wpIn Fence.wide n P Q a w := by
 refine wpIn_rangeFunc fun fn hfn => ?_
 obtain ⟨rec, hrec⟩ : ∃ rec : LoopState → Option Code → Loop, rec = fun st pe => { state := st, pending := pe, fn, tmps := a.tmps, params := ps, assign, body, defers := w.heap.size } := ⟨_, rfl⟩
 obtain ⟨W1, hW1⟩ : ∃ W1, (w.alloc (.deferred (some []))).alloc (.loop (rec .ready none)) = W1 := ⟨_, rfl⟩
 have hs1 : W1.heap.size = w.heap.size + 2 := by rw [← hW1]; simp
 have hL : W1.heap[w.heap.size + 1]? = some (.loop (rec .ready none)) := by
  have := World.alloc_heap_new (w.alloc (.deferred (some []))) (.loop (rec .ready none))
  rw [World.size_alloc, hW1] at this
  exact this
 have hD : W1.heap[w.heap.size]? = some (.deferred (some [])) := by
  rw [← hW1]
  exact (Below.heap_alloc _ _ _ (by simp)).trans (World.alloc_heap_new w _)
 have hb1 : Below w.heap.size w W1 := by
  rw [← hW1]
  exact ((Below.refl _ w).alloc (Nat.le_refl _) _).alloc (by simp) _
 refine ⟨w.heap.size + 1, [{ target := .collected w.heap.size, args := #[] }], W1, { target := .fn (.func gf) lb, args := #[.func (.yield (w.heap.size + 1)) #[] #[]] }, W1, gf,
  #[.func (.yield (w.heap.size + 1)) #[] #[]] ++ lb, W1, ?_, ?_, fun _ _ => trivial, ?_, fun hd => (by simp [Fence.wide] at hd), ?_⟩
 · rw [← hW1, hrec]
   exact run_enterLoop_outer _ _ _ _ _
 · simp only [resolve, hg]
   simp [go_sem]
 · simp [invoke, go_sem, eg]
 ·
  have hJ := hseq (w.heap.size + 1) (fun hi pre W => w.heap.size + 2 ≤ hi ∧ I hi pre W ∧ W.heap[w.heap.size + 1]? = some (.loop (rec .ready none)) ∧ W.heap[w.heap.size]? = some (.deferred (some [])) ∧ w.heap.size + 2 ≤ W.heap.size)
   (fun hi pre W => w.heap.size + 2 ≤ hi ∧ Ix hi pre W ∧ W.heap[w.heap.size + 1]? = some (.loop (rec .done (some .ret))) ∧ W.heap[w.heap.size]? = some (.deferred (some [])) ∧ w.heap.size + 2 ≤ W.heap.size) W1
   (hw0.trans (hb1.mono hw0.size))
   (fun hi s X Y hs ht => by
    rw [hs1] at ht
    exact ⟨hs.1, hI hi s X Y hs.2.1 (by have := hs.1; omega) (ht.mono (by omega) (Nat.le_refl _)), (ht.1.block _ (by omega)).trans hs.2.2.1, (ht.1.block _ (by omega)).trans hs.2.2.2.1, Nat.le_trans hs.2.2.2.2 ht.1.size⟩)
   (fun hi s X Y hs ht => by
    rw [hs1] at ht
    exact ⟨hs.1, hIx hi s X Y hs.2.1 (by have := hs.1; omega) (ht.mono (by omega) (Nat.le_refl _)), (ht.1.block _ (by omega)).trans hs.2.2.1, (ht.1.block _ (by omega)).trans hs.2.2.2.1, Nat.le_trans hs.2.2.2.2 ht.1.size⟩)
   (fun hi s X hs => hR hi s X hs.2.1)
   ?_
   (fun hi X hX h1 h2 => by
    rw [hs1] at hX h1
    exact ⟨h1, h0 hi X (hb1.trans (hX.mono (by omega))) h1 h2, (hX.block _ (by omega)).trans hL, (hX.block _ (by omega)).trans hD, by rw [← hs1]; exact hX.size⟩)
  · refine (callsIn_any _ hJ).mono ?_
    rintro e W2 ⟨⟨v, rfl⟩, hi, _, (⟨hh, hi2, hl, hk, hz⟩ | ⟨pre, hp, hh, hi2, hl, hk, hz⟩)⟩
    · refine ⟨none, W2.putObj (w.heap.size + 1) (.loop { rec .ready none with state := .exhausted }), ?_, hdone hi w.heap.size _ (Nat.le_refl _) (by omega) (hI _ _ _ _ hi2 (by omega) (Turns.putObj _ (by omega) (by omega))) ((World.putObj_heap_other (by omega)).trans hk)⟩
      have := run_endLoop (P := P) hl (by rw [hrec]; simp)
      rw [hrec] at this ⊢
      exact this
    · refine ⟨some .ret, W2.putObj (w.heap.size + 1) (.loop { rec .done (some .ret) with state := .exhausted }), ?_, hstop hi w.heap.size pre _ (Nat.le_refl _) (by omega) hp (hIx _ _ _ _ hi2 (by omega) (Turns.putObj _ (by omega) (by omega))) ((World.putObj_heap_other (by omega)).trans hk)⟩
      have := run_endLoop (P := P) hl (by rw [hrec]; simp)
      rw [hrec] at this ⊢
      exact this
  ·
   rintro hi pre x gg W ⟨hh, hi1, hl, hk, hz⟩ hlo hgg hpx hrow
   have hlt : w.heap.size + 1 < W.heap.size := (Array.getElem?_eq_some_iff.1 hl).1
   have hy := run_yield (P := P) (args := #[.slice (some ⟨gg, 0, none⟩) x.length x.length]) hl (by rw [hrec]; exact hps.symm)
   rw [hrec] at hy
   refine ⟨fn, _, assign, body, hy, roundIn_of_wpIn hfn (hassign _ gg x W _ ⟨_, run_beginRound hl (by rw [hrec]), ?_⟩)⟩
   obtain ⟨Wb, hWb⟩ : ∃ Wb, W.putObj (w.heap.size + 1) (.loop { rec .ready none with state := .busy }) = Wb := ⟨_, rfl⟩
   have hl2 : Wb.heap[w.heap.size + 1]? = some (.loop { rec .ready none with state := .busy }) := by rw [← hWb]; exact World.putObj_heap_same hlt
   have hk2 : Wb.heap[w.heap.size]? = some (.deferred (some [])) := by rw [← hWb]; exact (World.putObj_heap_other (by omega)).trans hk
   have hrow2 : RowV Wb gg (strV x) := by rw [← hWb]; exact hrow.same (World.putObj_heap_other (by omega))
   have hib : I hi pre Wb := by rw [← hWb]; exact hI _ _ _ _ hi1 (by omega) (Turns.putObj _ (by omega) (by omega))
   have hzb : Wb.heap.size = W.heap.size := by rw [← hWb]; simp
   have hWo : ∀ q, w.heap.size + 2 ≤ q → Wb.heap[q]? = W.heap[q]? := fun q hq => by rw [← hWb]; exact World.putObj_heap_other (by omega)
   rw [hWb]
   refine wpIn_mono (hbody _ hi pre x gg _ hib hh hgg hpx hrow2) ?_
   rintro e a3 W3 hp
   cases e with
   | normal =>
    obtain ⟨hk3, hi3⟩ := hp
    have hl3 : W3.heap[w.heap.size + 1]? = some (.loop { rec .ready none with state := .busy }) := (hk3.2 _ (by omega) (by omega) (by omega)).trans hl2
    have hD3 : W3.heap[w.heap.size]? = some (.deferred (some [])) := (hk3.2 _ (by omega) (by omega) (by omega)).trans hk2
    have hr := run_endRound (P := P) none hl3
    have hz3 := hk3.1
    rw [hrec] at hr
    refine ⟨_, _, hr, ⟨by simp; omega, fun q h1 h2 h3 => ?_⟩, .inl ⟨rfl, hh, hI _ _ _ _ hi3 (by omega) (Turns.putObj _ (by omega) (by omega)), ?_, (World.putObj_heap_other (by omega)).trans hD3, by simp; omega⟩⟩
    · rw [hs1] at h1
      rw [World.putObj_heap_other (by omega), hk3.2 q (by omega) h2 (by omega), hWo q h1]
    · rw [hrec]
      exact World.putObj_heap_same (Array.getElem?_eq_some_iff.1 hl3).1
   | ret =>
    obtain ⟨hk3, hi3⟩ := hp
    have hl3 : W3.heap[w.heap.size + 1]? = some (.loop { rec .ready none with state := .busy }) := (hk3.2 _ (by omega) (by omega) (by omega)).trans hl2
    have hD3 : W3.heap[w.heap.size]? = some (.deferred (some [])) := (hk3.2 _ (by omega) (by omega) (by omega)).trans hk2
    have hr := run_endRound (P := P) (some .ret) hl3
    have hz3 := hk3.1
    rw [hrec] at hr
    refine ⟨_, _, hr, ⟨by simp; omega, fun q h1 h2 h3 => ?_⟩, .inr ⟨rfl, hh, hIx _ _ _ _ hi3 (by omega) (Turns.putObj _ (by omega) (by omega)), ?_, (World.putObj_heap_other (by omega)).trans hD3, by simp; omega⟩⟩
    · rw [hs1] at h1
      rw [World.putObj_heap_other (by omega), hk3.2 q (by omega) h2 (by omega), hWo q h1]
    · rw [hrec]
      exact World.putObj_heap_same (Array.getElem?_eq_some_iff.1 hl3).1
   | _ => exact hp.elim
section
variable {n : Nat} {P : Program} {ops : Array Oper} {Q : Exit → Act → World → Prop} {md : Region.Mode} {S : World → Prop}
theorem wide_round : Fence.wide.round = none := rfl
theorem yieldsX_op {i : Nat} {o : Oper} {v : Value} {a : Act} (hi : ops[i]? = some o) (hy : YieldsIf P ops S o v a) {K : Act → World → Prop} {w : World} (hS : S w) (h : K (a.put o.dst v) w) : wpOpIn Fence.wide n P ops Q i K a w := by
 unfold Go.wpOpIn
 simp only [hi]
 rcases hy with ⟨hw, hv⟩ | ⟨hw, rfl⟩
 · simp only [hw, if_true, Oper.wpIn, wide_round, Oper.semAt_none, hv w hS, Oper.uponIn]; exact ⟨fun _ _ => trivial, h⟩
 · simp only [hw, Bool.false_eq_true, if_false]; exact ⟨fun _ _ => trivial, h⟩
theorem opX_put {j : Nat} {oi oj : Oper} {v : Value} (hj : ops[j]? = some oj) (hap : oi.apart ops oj = true)
 (hsi : ∀ cs b, oi.op ≠ .select cs b) (hsj : ∀ cs b, oj.op ≠ .select cs b)
 (hQ : ∀ c a w, Q (.panic c) (a.put oi.dst v) w → Q (.panic c) a w) {K : Act → World → Prop} {a : Act} {w : World}
 (hy : YieldsIf P ops S oi v a) (h : wpOpIn Fence.wide n P ops Q j K (a.put oi.dst v) w) :
 wpOpIn Fence.wide n P ops Q j (fun a' w' => YieldsIf P ops S oi v a' ∧ K (a'.put oi.dst v) w') a w := by
 obtain ⟨h1, h2, h3⟩ := Oper.apart_spec hap
 have keep : ∀ (a : Act), YieldsIf P ops S oi v a → ∀ u, YieldsIf P ops S oi v (a.put oj.dst u) := fun a hy u =>
  hy.of_same (execOp_put oi hsi a oj.dst u h3) (wanted_put oi a oj.dst u h3)
 have keepD : ∀ d, YieldsIf P ops S oi v { a with defers := d :: a.defers } := fun d => hy.of_same rfl rfl
 unfold wpOpIn at *
 simp only [hj] at *
 rw [wanted_put oj a oi.dst v h1, about_put oj w a oi.dst v h1] at h
 split
 ·
  rename_i hw
  simp only [hw, if_true] at h
  unfold Oper.wpIn at *
  rw [about_put oj w a oi.dst v h1] at h
  refine ⟨h.1, ?_⟩
  have h := h.2
  rw [wide_round, Oper.semAt_none, execOp_put oj hsj a oi.dst v h1] at h
  rw [wide_round, Oper.semAt_none]
  generalize (execOp a.eval oj).run P w = r at *
  cases r with
  | ok x w' =>
   cases x <;> simp only [Oper.uponIn] at h ⊢
   case value u => exact ⟨keep a hy u, by rw [← Act.put_comm a v u h2]; exact h⟩
   case skip => exact ⟨keep a hy _, by rw [← Act.put_comm a v undef h2]; exact h⟩
   case defer d =>
    refine ⟨keep _ (keepD d) _, ?_⟩
    rw [← Act.put_comm _ v undef h2, ← Act.put_defers]
    exact h
   case enter f args =>
    refine ⟨h.1, CallsIn.mono h.2 fun e w'' he => ?_⟩
    cases e with
    | returned u => exact ⟨keep a hy u, by rw [← Act.put_comm a v u h2]; exact he⟩
    | panicked c => exact hQ _ _ _ he
    | outgrown => exact he
   case row row args => exact ⟨h.1, RowsIn.mono h.2 fun u w'' he => ⟨keep a hy u, by rw [← Act.put_comm a v u h2]; exact he⟩⟩
   case round l f tmps assign body =>
    refine ⟨h.1, RoundIn.mono h.2 fun e w'' he => ?_⟩
    cases e with
    | returned u => exact ⟨keep a hy u, by rw [← Act.put_comm a v u h2]; exact he⟩
    | panicked c => exact hQ _ _ _ he
    | outgrown => exact he
  | halt x w' =>
   cases x <;> simp only [Oper.uponIn] at h ⊢
   case panic u => exact hQ _ _ _ h
 · rename_i hw
   simp only [hw] at h
   exact ⟨h.1, keep a hy _, by rw [← Act.put_comm a v undef h2]; exact h.2⟩
def wpAnyX (n : Nat) (P : Program) (md : Region.Mode) (ops : Array Oper) (Q : Exit → Act → World → Prop) (S : World → Prop) : Nat → Array Bool → Act → World → Prop
 | 0, listed, a, w => Region.ready md ops listed = [] ∧ Q .normal a w
 | fuel + 1, listed, a, w =>
  (Region.ready md ops listed = [] → Q .normal a w) ∧
  ∀ i ∈ Region.ready md ops listed, wpOpIn Fence.wide n P ops Q i (fun a' w' => S w' ∧ wpAnyX n P md ops Q S fuel (listed.setIfInBounds i true) a' w') a w
theorem anyIn_of_X : ∀ (fuel : Nat) (listed : Array Bool) (a : Act) (w : World), wpAnyX n P md ops Q S fuel listed a w → wpAnyIn Fence.wide n P md ops Q fuel listed a w
 | 0, _, _, _, h => h
 | fuel + 1, _, _, _, h => ⟨h.1, fun i hi => wpOpIn_mono (fun a' w' h' => anyIn_of_X fuel _ a' w' h'.2) (h.2 i hi)⟩
theorem anyX_first {i : Nat} {oi : Oper} {v : Value} (hi : ops[i]? = some oi) (hsel : ∀ (j : Nat) (o : Oper) cs b, ops[j]? = some o → o.op ≠ .select cs b)
 (hQ : ∀ c a w, Q (.panic c) (a.put oi.dst v) w → Q (.panic c) a w) :
 ∀ (fuel : Nat) (listed : Array Bool) (a : Act) (w : World),
  (∀ j oj, ops[j]? = some oj → j ≠ i → listed.getD j true = false → (∀ e ∈ oj.after, Region.binds md e = true → e.on ≠ i) → oi.apart ops oj = true) →
  i ∈ Region.ready md ops listed → YieldsIf P ops S oi v a → S w →
  wpAnyX n P md ops Q S fuel (listed.setIfInBounds i true) (a.put oi.dst v) w → wpAnyX n P md ops Q S (fuel + 1) listed a w := by
 intro fuel
 induction fuel with
 | zero =>
  intro listed a w _ hr hy hS H
  refine ⟨fun h => (by rw [h] at hr; cases hr), fun j hj => ?_⟩
  by_cases hji : j = i
  · subst hji; exact yieldsX_op hi hy hS ⟨hS, H⟩
  · have := ready_mono hj hji
    rw [H.1] at this
    cases this
 | succ fuel ih =>
  intro listed a w hfree hr hy hS H
  refine ⟨fun h => (by rw [h] at hr; cases hr), fun j hj => ?_⟩
  by_cases hji : j = i
  · subst hji; exact yieldsX_op hi hy hS ⟨hS, H⟩
  ·
   have h1 := H.2 j (ready_mono hj hji)
   obtain ⟨hjun, oj, hoj, hall⟩ := mem_ready.1 hj
   have hnot : ∀ e ∈ oj.after, Region.binds md e = true → e.on ≠ i := fun e he hb heq => by
    have h1 := hall e he hb
    have h0 := (mem_ready.1 hr).1
    rw [heq] at h1
    rcases Nat.lt_or_ge i listed.size with h' | h'
    · simp [h'] at h0 h1; rw [h0] at h1; cases h1
    · simp [Array.getElem?_eq_none h'] at h1
   have h2 := opX_put hoj (hfree j oj hoj hji hjun hnot) (fun cs b => hsel i oi cs b hi) (fun cs b => hsel j oj cs b hoj) hQ hy h1
   have hfree' : ∀ k ok, ops[k]? = some ok → k ≠ i → (listed.setIfInBounds j true).getD k true = false →
    (∀ e ∈ ok.after, Region.binds md e = true → e.on ≠ i) → oi.apart ops ok = true := fun k ok hk hki hun hno => by
    refine hfree k ok hk hki ?_ hno
    by_cases hjk : j = k
    · subst hjk; exact hjun
    · rw [getD_set_ne true hjk] at hun; exact hun
   refine wpOpIn_mono (fun a' w' h3 => ⟨h3.2.1, ih (listed.setIfInBounds j true) a' w' hfree' (ready_mono hr (Ne.symm hji)) h3.1 h3.2.1 ?_⟩) h2
   rw [Array.setIfInBounds_comm _ _ hji]
   exact h3.2.2
theorem anyX_take {i : Nat} {oi : Oper} {v : Value} {fuel : Nat} {listed : Array Bool} {a : Act} {w : World} (hi : ops[i]? = some oi)
 (hs : Region.noSelect ops = true) (hf : Region.free md ops listed i = true) (hr : (Region.ready md ops listed).contains i = true)
 (hQ : ∀ c a w, Q (.panic c) (a.put oi.dst v) w → Q (.panic c) a w) (hy : YieldsIf P ops S oi v a) (hS : S w)
 (h : wpAnyX n P md ops Q S fuel (listed.setIfInBounds i true) (a.put oi.dst v) w) : wpAnyX n P md ops Q S (fuel + 1) listed a w :=
 anyX_first hi (Region.noSelect_spec hs) hQ fuel listed a w (Region.free_spec hi hf) (by simpa using hr) hy hS h
theorem anyX_done {listed : Array Bool} {a : Act} {w : World} (hr : Region.ready md ops listed = []) (h : Q .normal a w) :
 ∀ fuel, wpAnyX n P md ops Q S fuel listed a w
 | 0 => ⟨hr, h⟩
 | _ + 1 => ⟨fun _ => h, by rw [hr]; simp⟩
theorem anyX_one {i : Nat} {o : Oper} {fuel : Nat} {listed : Array Bool} {a : Act} {w : World} (hr : Region.ready md ops listed = [i]) (ho : ops[i]? = some o) (hw : Region.wanted o (yielded ops a.tmps) = true)
 (h : o.wpIn Fence.wide n P a w (fun a' w' => S w' ∧ wpAnyX n P md ops Q S fuel (listed.setIfInBounds i true) a' w') Q) : wpAnyX n P md ops Q S (fuel + 1) listed a w := by
 refine ⟨fun h0 => (by rw [hr] at h0; cases h0), fun j hj => ?_⟩
 rw [hr] at hj
 obtain rfl : j = i := by simpa using hj
 unfold Go.wpOpIn
 simp only [ho, hw, if_true]
 exact h
theorem regionX {id : Nat} {a : Act} {w : World} (hm : P.follows .mixedOrders = true) (h : wpAnyX n P .any ops Q S ops.size (Array.replicate ops.size false) a w.drew) : (Code.region id ops true).wpIn Fence.wide n P Q a w :=
 wpIn_region_any hm (anyIn_of_X _ _ _ _ h)
theorem opX_call {o : Oper} {a : Act} {w : World} {K : Act → World → Prop} {f : FuncId} {args : Array Value} {R : Ending → World → Prop} (hrun : (execOp a.eval o).run P w = .ok (.enter f args) w) (hc : Calls P f args w R)
 (hK : ∀ e w', R e w' → ∃ v, e = .returned v ∧ K (a.put o.dst v) w') : o.wpIn Fence.wide n P a w K Q := by
 refine ⟨fun _ _ => trivial, ?_⟩
 rw [wide_round, Oper.semAt_none, hrun]
 refine ⟨fun hd => (by simp [Fence.wide] at hd), CallsIn.mono (callsIn_wide.2 hc) fun e w' he => ?_⟩
 obtain ⟨v, rfl, hk⟩ := hK e w' he
 exact hk
theorem opX_yield {o : Oper} {a : Act} {w : World} {K : Act → World → Prop} {l : Nat} {args : Array Value} {R : Ending → World → Prop} (hrun : ∀ r, (Instr.yield l args).run P w = .ok r w → (execOp a.eval o).run P w = .ok r w) (hy : YieldAt Fence.wide 5 P l args w R)
 (hK : ∀ e w', R e w' → ∃ v, e = .returned v ∧ K (a.put o.dst v) w') : o.wpIn Fence.wide n P a w K Q := by
 obtain ⟨fn, tmps, assign, body, hr, hR⟩ := hy
 refine ⟨fun _ _ => trivial, ?_⟩
 rw [wide_round, Oper.semAt_none, hrun _ hr]
 refine ⟨fun hd => (by simp [Fence.wide] at hd), (round_wide _ hR).mono fun e w' he => ?_⟩
 obtain ⟨v, rfl, hk⟩ := hK e w' he
 exact hk
end
end Go.Proofs.YtibahbkjjfmbgaaGreatDoor
