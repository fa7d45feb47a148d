/-
  What is proved here: laws for a range over an iterator that has two cells of its own (it may turn them between two rounds), at the fence that lets everything in; and that a region within a round may be walked as outside of one. Nothing of the program is used.
-/
import Derived.Test.YtipkaeeimohmpaaBt
import Derived.RangeFuncNested
import Derived.RangeFuncBound
import Derived.RangeFuncCalls
import Derived.RangeFuncLeaves
import Derived.Shelf.Abstract
import Derived.Shelf.RegionOpen
import Derived.OwnWalkIn
import Derived.TacticsInMore
import Derived.LoopNIn
import Derived.LoopIn
import Derived.OrdersHeld
namespace Go.Proofs.Ytipkaeeimohmpaa
open Go.RowKit Go.Shelf
set_option linter.unusedVariables false

/-! ### a region within a round -/
section
variable {P : Program} {l n : Nat} {ops : Array Oper} {Q : Exit → Act → World → Prop} {md : Region.Mode}
theorem calls_round {f : FuncId} {args : Array Value} {w : World} {R : Ending → World → Prop} (m : Nat) (h : Calls P f args w R) : CallsIn (Fence.wide.inRound l) m P f args w R :=
  CallsIn.inRound l (callsIn_wide.2 h)
theorem callsIn_any {f : FuncId} {args : Array Value} {w : World} {R : Ending → World → Prop} {m : Nat} (m2 : Nat) (h : CallsIn Fence.wide m P f args w R) : CallsIn Fence.wide m2 P f args w R :=
  callsIn_wide.2 (callsIn_wide.1 h)
theorem round_any {l2 : Nat} {f : FuncId} {tmps : Array Value} {assign body : Code} {w : World} {R : Ending → World → Prop} {m : Nat} (m2 : Nat) (h : RoundIn Fence.wide m P l f tmps assign body w R) : RoundIn (Fence.wide.inRound l2) m2 P l f tmps assign body w R :=
  ⟨trivial, fun c cs _ => h.2 c cs (room_wide _)⟩
theorem rows_round {row : String} {args : Array Value} {w : World} {R : Value → World → Prop} (m : Nat) (h : Rows P row args w R) : RowsIn (Fence.wide.inRound l) m P row args w R :=
  fun c cs _ => let ⟨v, w', r, s⟩ := h c cs; ⟨v, w', r, stepsIn_wide.2 s⟩
theorem op_round {o : Oper} {a : Act} {w : World} {K : Act → World → Prop} (hnd : ∀ c, o.op ≠ .defer c) (h : o.wp P a w K Q) : o.wpIn (Fence.wide.inRound l) n P a w K Q := by
  refine ⟨fun f _ => trivial, ?_⟩
  rw [Oper.semAt_plain _ _ _ hnd]
  unfold Oper.wp at h
  revert h
  generalize (execOp a.eval o).run P w = r
  intro h
  cases r with
  | ok x w' =>
    cases x with
    | enter f args => exact ⟨fun hd => (by simp [Fence.wide] at hd), calls_round _ h⟩
    | row r args => exact ⟨fun hd => (by simp [Fence.wide] at hd), rows_round _ h⟩
    | _ => first | exact h | exact h.elim
  | halt x w' => cases x <;> exact h
theorem any_round (hnd : ∀ (i : Nat) (o : Oper), ops[i]? = some o → ∀ c, o.op ≠ Op.defer c) (hQ : ¬ LetsOut Q) : ∀ (fuel : Nat) (listed : Array Bool) (a : Act) (w : World), wpAny P md ops Q fuel listed a w → wpAnyIn (Fence.wide.inRound l) n P md ops Q fuel listed a w
  | 0, _, _, _, h => h
  | fuel + 1, listed, a, w, h => ⟨h.1, fun i hi => by
    have h2 := h.2 i hi
    unfold wpOp at h2
    unfold wpOpIn
    cases ho : ops[i]? with
    | none =>
      simp only [ho] at h2 ⊢
      exact any_round hnd hQ fuel _ _ _ h2
    | some o =>
      simp only [ho] at h2 ⊢
      by_cases hw : Region.wanted o (yielded ops a.tmps) = true
      · rw [if_pos hw] at h2 ⊢
        rcases h2 with h2 | h2
        · exact op_round (hnd i o ho) (Oper.wp_mono (fun a' w' h3 => any_round hnd hQ fuel _ a' w' h3) h2)
        · exact absurd h2.2 hQ
      · rw [if_neg hw] at h2 ⊢
        exact ⟨fun _ _ => trivial, any_round hnd hQ fuel _ _ _ h2⟩⟩
def noDefer (o : Oper) : Bool := match o.op with
  | .defer _ => false
  | _ => true
theorem no_defer {ops : Array Oper} (h : ops.toList.all noDefer = true) (i : Nat) (o : Oper) (ho : ops[i]? = some o) (c : Call) : o.op ≠ Op.defer c := by
  intro e
  have h1 := List.all_eq_true.1 h o (by rw [← Array.getElem?_toList] at ho; exact List.mem_of_getElem? ho)
  unfold noDefer at h1
  rw [e] at h1
  cases h1
theorem region_round {id : Nat} {S : World → Prop} {a : Act} {w : World} (hm : P.follows .mixedOrders = true) (hnd : ops.toList.all noDefer = true) (hQ : ¬ LetsOut Q) (hS : S w.drew)
    (h : S w.drew → wpAnyH P .any ops Q S ops.size (Array.replicate ops.size false) a w.drew) : (Code.region id ops true).wpIn (Fence.wide.inRound l) n P Q a w :=
  wpIn_region_any hm (any_round (no_defer hnd) hQ _ _ _ _ (wpAny_of_held _ _ _ _ (h hS)))
end

/-! ### the iterator's contract and the caller's law -/
/-- what may have turned between two rounds: blocks b to b + 3, and what is no cells from b on -/
def StepsU (b : Nat) (X Y : World) : Prop := Y.os = X.os ∧ Y.tape = X.tape ∧ Y.output = X.output ∧ X.heap.size ≤ Y.heap.size ∧ ∀ q, q < X.heap.size → (q < b ∨ (b + 4 ≤ q ∧ ∃ o : Obj, X.heap[q]? = some o ∧ o.isCells = true)) → Y.heap[q]? = X.heap[q]?
/-- the same for the iterator, whose cells are B and B + 1 -/
def StepsI (B : Nat) (X Y : World) : Prop := Y.os = X.os ∧ Y.tape = X.tape ∧ Y.output = X.output ∧ X.heap.size ≤ Y.heap.size ∧ ∀ q, q < X.heap.size → (q < B ∨ (B + 2 ≤ q ∧ ∃ o : Obj, X.heap[q]? = some o ∧ o.isCells = true)) → Y.heap[q]? = X.heap[q]?
/-- whatever lay from block B on lies as it lay -/
def KeepsUp (B : Nat) (X Y : World) : Prop := X.heap.size ≤ Y.heap.size ∧ ∀ q, B ≤ q → q < X.heap.size → Y.heap[q]? = X.heap[q]?
theorem StepsI.u {b : Nat} {X Y : World} (h : StepsI (b + 2) X Y) : StepsU b X Y :=
  ⟨h.1, h.2.1, h.2.2.1, h.2.2.2.1, fun q hq hc => h.2.2.2.2 q hq (hc.elim (fun h1 => .inl (by omega)) (fun h1 => .inr ⟨by omega, h1.2⟩))⟩
theorem StepsU.alloc (b : Nat) (X : World) (o : Obj) : StepsU b X (X.alloc o) := ⟨rfl, rfl, rfl, by simp, fun q hq _ => Below.heap_alloc X o q hq⟩
theorem StepsU.putObj {b : Nat} {X : World} {q : Nat} {o : Obj} (o' : Obj) (h : X.heap[q]? = some o) (ho : o.isCells = false) (hb : b ≤ q) : StepsU b X (X.putObj q o') :=
  ⟨rfl, rfl, rfl, by simp, fun k hk hc => World.putObj_heap_other (by
    rintro rfl
    rcases hc with h1 | ⟨_, o2, h2, h3⟩
    · omega
    · rw [h] at h2; cases h2; rw [ho] at h3; cases h3)⟩
theorem KeepsUp.trans {B : Nat} {X Y Z : World} (h : KeepsUp B X Y) (k : KeepsUp B Y Z) : KeepsUp B X Z := ⟨Nat.le_trans h.1 k.1, fun q h1 h2 => (k.2 q h1 (Nat.lt_of_lt_of_le h2 h.1)).trans (h.2 q h1 h2)⟩
theorem KeepsUp.below {n B : Nat} {X Y : World} (h : Below X.heap.size X Y) : KeepsUp B X Y := ⟨h.size, fun q _ h2 => h.block q h2⟩
theorem StepsI.grown {B : Nat} {X Y : World} {row : Option Nat} (hg : X.grownBy Y row) (hr : ∀ r, row = some r → B ≤ r ∧ ((r < B + 2) ∨ ∃ o : Obj, X.heap[r]? = some o ∧ o.isCells = false)) : StepsI B X Y :=
  ⟨hg.os, hg.tape, hg.output, hg.size, fun q hq hc => hg.block q hq (by
    intro e
    obtain ⟨h1, h2⟩ := hr q e.symm
    rcases hc with h3 | ⟨h3, o, h4, h5⟩
    · omega
    · rcases h2 with h2 | ⟨o2, h6, h7⟩
      · omega
      · rw [h4] at h6; cases h6; rw [h5] at h7; cases h7)⟩

/-- an iterator that hands over blocks of 16 bytes, each in a block of memory of its own, and never stops ahead of its end -/
def SeqE {α : Type} (P : Program) (gf : Nat) (lb : Array Value) (ct : List α → α → List UInt8) (Rd : Nat → World → Prop) (N : Nat) (fin : List α) : Prop :=
  ∀ (l : Nat) (J : List α → World → Prop) (W : World), (∀ s X Y, J s X → StepsI W.heap.size X Y → J s Y) → (∀ s X, J s X → Rd W.heap.size X) →
    (∀ pre x g X, J pre X → pre.length < N → W.heap.size + 2 ≤ g → RowB X g (ct pre x) → YieldAt Fence.wide 5 P l #[.slice (some ⟨g, 0, none⟩) 16 16] X fun e Y => e = .returned (.bool true) ∧ J (pre ++ [x]) Y ∧ KeepsUp W.heap.size X Y) →
    J [] W → CallsIn Fence.wide 5 P gf (#[.func (.yield l) #[] #[]] ++ lb) W fun e W' => (∃ v, e = .returned v) ∧ J fin W'

def postE {α : Type} (b : Nat) (I : List α → World → Prop) (xs : List α) (W : World) : Exit → Act → World → Prop
  | .normal, _, W' => KeepsUp b W W' ∧ I xs W'
  | _, _, _ => False

theorem range_e {α : Type} {P : Program} {n : Nat} {g : Operand} {ps : Array Tmp} {assign body : Code} {Q : Exit → Act → World → Prop} {a : Act} {w : World}
    {gf : Nat} {lb : Array Value} {ct : List α → α → List UInt8} {Rd : Nat → World → Prop} {N : Nat} {fin : List α} (hseq : SeqE P gf lb ct Rd N fin)
    (hg : a.eval g = .func (.func gf) #[] lb) (eg : ∀ args w, (callFunc gf args).run P w = .ok (.enter gf args) w) (hps : ps.size = 1)
    (I : List α → World → Prop) (hI : ∀ s X Y, I s X → StepsU w.heap.size X Y → I s Y) (hR : ∀ s X, I s X → Rd (w.heap.size + 2) X) (h0 : I [] w) (a₁ : Nat → Act)
    (hassign : ∀ (l gg : Nat) (W : World) (K : Act → World → Prop), K (a₁ gg) W →
      assign.wpIn (Fence.wide.inRound l) 5 P (Exit.then K (fun _ _ _ => False)) { tmps := (ps.zip #[.slice (some ⟨gg, 0, none⟩) 16 16]).foldl (fun t (p, v) => t.setIfInBounds p v) a.tmps, defers := [] } W)
    (hbody : ∀ (l : Nat) (pre : List α) (x : α) (gg : Nat) (W : World), I pre W → pre.length < N → w.heap.size + 4 ≤ gg → RowB W gg (ct pre x) → body.wpIn (Fence.wide.inRound l) 5 P (postE w.heap.size I (pre ++ [x]) W) (a₁ gg) W)
    (hdone : ∀ (D : Nat) (W : World), w.heap.size ≤ D → I fin W → W.heap[D]? = some (.deferred (some [])) → Q .normal { a with defers := { target := .collected D, args := #[] } :: a.defers } W) :
    (Code.rangeFunc g ps assign body).wpIn Fence.wide n P Q a w := by
  refine wpIn_rangeFunc fun fn hfn => ?_
  obtain ⟨rec, hrec⟩ : ∃ rec : LoopState → Option Code → Loop, rec = fun st pe => { state := st, pending := pe, fn, tmps := a.tmps, params := ps, assign, body, defers := w.heap.size } := ⟨_, rfl⟩
  obtain ⟨W1, hW1⟩ : ∃ W1, (w.alloc (.deferred (some []))).alloc (.loop (rec .ready none)) = W1 := ⟨_, rfl⟩
  have hs1 : W1.heap.size = w.heap.size + 2 := by rw [← hW1]; simp
  have hL : W1.heap[w.heap.size + 1]? = some (.loop (rec .ready none)) := by
    have := World.alloc_heap_new (w.alloc (.deferred (some []))) (.loop (rec .ready none))
    rw [World.size_alloc, hW1] at this
    exact this
  have hD : W1.heap[w.heap.size]? = some (.deferred (some [])) := by
    rw [← hW1]
    exact (Below.heap_alloc _ _ _ (by simp)).trans (World.alloc_heap_new w _)
  have hI1 : I [] W1 := by
    rw [← hW1]
    exact hI _ _ _ (hI _ _ _ h0 (StepsU.alloc _ _ _)) (StepsU.alloc _ _ _)
  refine ⟨w.heap.size + 1, [{ target := .collected w.heap.size, args := #[] }], W1, { target := .fn (.func gf) lb, args := #[.func (.yield (w.heap.size + 1)) #[] #[]] }, W1, gf,
    #[.func (.yield (w.heap.size + 1)) #[] #[]] ++ lb, W1, ?_, ?_, fun _ _ => trivial, ?_, fun hd => (by simp [Fence.wide] at hd), ?_⟩
  · rw [← hW1, hrec]
    exact run_enterLoop_outer _ _ _ _ _
  · simp only [resolve, hg]
    simp [go_sem]
  · simp [invoke, go_sem, eg]
  · have hJ := hseq (w.heap.size + 1) (fun pre W => I pre W ∧ W.heap[w.heap.size + 1]? = some (.loop (rec .ready none)) ∧ W.heap[w.heap.size]? = some (.deferred (some []))) W1
      (fun s X Y hs hst => ⟨hI s X Y hs.1 (by rw [hs1] at hst; exact hst.u), (hst.2.2.2.2 _ (Array.getElem?_eq_some_iff.1 hs.2.1).1 (.inl (by rw [hs1]; omega))).trans hs.2.1, (hst.2.2.2.2 _ (Array.getElem?_eq_some_iff.1 hs.2.2).1 (.inl (by rw [hs1]; omega))).trans hs.2.2⟩)
      (fun s X hs => by rw [hs1]; exact hR s X hs.1)
      ?_ ⟨hI1, hL, hD⟩
    · refine (callsIn_any _ hJ).mono ?_
      rintro e W2 ⟨⟨v, rfl⟩, hi, hl, hk⟩
      refine ⟨none, W2.putObj (w.heap.size + 1) (.loop { rec .ready none with state := .exhausted }), ?_, hdone _ _ (Nat.le_refl _) (hI _ _ _ hi (StepsU.putObj _ hl rfl (by omega))) ((World.putObj_heap_other (by omega)).trans hk)⟩
      have := run_endLoop (P := P) hl (by rw [hrec]; simp)
      rw [hrec] at this ⊢
      exact this
    · rintro pre x gg W ⟨hi, hl, hk⟩ hlen hgg hrow
      rw [hs1] at hgg
      have hlt : w.heap.size + 1 < W.heap.size := (Array.getElem?_eq_some_iff.1 hl).1
      have hy := run_yield (P := P) (args := #[.slice (some ⟨gg, 0, none⟩) 16 16]) hl (by rw [hrec]; exact hps.symm)
      rw [hrec] at hy
      refine ⟨fn, _, assign, body, hy, roundIn_of_wpIn hfn (hassign _ gg W _ ⟨_, run_beginRound hl (by rw [hrec]), ?_⟩)⟩
      have hl2 : (W.putObj (w.heap.size + 1) (.loop { rec .ready none with state := .busy })).heap[w.heap.size + 1]? = some (.loop { rec .ready none with state := .busy }) := World.putObj_heap_same hlt
      have hk2 : (W.putObj (w.heap.size + 1) (.loop { rec .ready none with state := .busy })).heap[w.heap.size]? = some (.deferred (some [])) := (World.putObj_heap_other (by omega)).trans hk
      have hrow2 : RowB (W.putObj (w.heap.size + 1) (.loop { rec .ready none with state := .busy })) gg (ct pre x) := hrow.same (World.putObj_heap_other (by omega))
      refine wpIn_mono (hbody _ pre x gg _ (hI _ _ _ hi (StepsU.putObj _ hl rfl (by omega))) hlen (by omega) hrow2) ?_
      rintro e a3 W3 hp
      cases e with
      | normal =>
        obtain ⟨hk3, hi3⟩ := hp
        have hl3 : W3.heap[w.heap.size + 1]? = some (.loop { rec .ready none with state := .busy }) := (hk3.2 _ (by omega) (by simpa using hlt)).trans hl2
        have hD3 : W3.heap[w.heap.size]? = some (.deferred (some [])) := (hk3.2 _ (by omega) (by simp; omega)).trans hk2
        have hr := run_endRound (P := P) none hl3
        rw [hrec] at hr
        refine ⟨_, _, hr, rfl, ⟨hI _ _ _ hi3 (StepsU.putObj _ hl3 rfl (by omega)), ?_, (World.putObj_heap_other (by omega)).trans hD3⟩, ?_⟩
        · rw [hrec]
          exact World.putObj_heap_same (Array.getElem?_eq_some_iff.1 hl3).1
        · refine ⟨by simpa using hk3.1, fun q h1 h2 => ?_⟩
          rw [hs1] at h1
          rw [World.putObj_heap_other (by omega), hk3.2 q (by omega) (by simpa using h2), World.putObj_heap_other (by omega)]
      | _ => exact hp.elim

end Go.Proofs.Ytipkaeeimohmpaa
