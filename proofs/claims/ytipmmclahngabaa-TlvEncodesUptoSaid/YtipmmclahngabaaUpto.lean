/-
  What is proved here: what the second form's bound gives: a byte slice or a string that came in has at most 1048576 bytes; no condition of its own.
-/
import Derived.Test.YtipmmclahngabaaOpen
import Derived.Deep.CondSized
import Derived.JoinedCond
namespace Go.Proofs.Ytipmmclahngabaa

theorem bulk_one {H : Type} (d : DataW H) : 1 ≤ Rows.uptoBulk d := by
  cases d with
  | lit l => cases l <;> simp [Rows.uptoBulk]
  | nil => simp [Rows.uptoBulk]
  | ptr d => simp [Rows.uptoBulk]
  | slice elems spare => simp [Rows.uptoBulk]
  | agg parts => simp [Rows.uptoBulk]
  | iface t d => simp [Rows.uptoBulk]
  | map entries => simp [Rows.uptoBulk]
  | held h => simp [Rows.uptoBulk]
theorem bulk_part {H : Type} {d : DataW H} {l : List (DataW H)} (h : d ∈ l) : Rows.uptoBulk d ≤ Rows.uptoBulkAll l := by
  induction l with
  | nil => cases h
  | cons x r ih =>
    simp only [Rows.uptoBulkAll]
    rcases List.mem_cons.1 h with e | e
    · subst e; omega
    · have := ih e; omega
theorem bulk_len {H : Type} (l : List (DataW H)) : l.length ≤ Rows.uptoBulkAll l := by
  induction l with
  | nil => simp [Rows.uptoBulkAll]
  | cons x r ih => have := bulk_one x; simp only [Rows.uptoBulkAll, List.length_cons]; omega
theorem small_all {H : Type} {l : List (DataW H)} (hk : Rows.uptoSmall H l = true) : Rows.uptoBulkAll l ≤ 1048576 := of_decide_eq_true hk
theorem small_u8s {H : Type} {l : List (DataW H)} {d : DataW H} (hk : Rows.uptoSmall H l = true) (hd : d ∈ l) {len cap : Nat} (hl : len ≤ cap) (hc : cap = 0 ∨ ∃ es sp, d = .slice es sp ∧ es.length + sp.length = cap) : len ≤ 1048576 := by
  have h1 := small_all hk
  have h2 := bulk_part hd
  rcases hc with rfl | ⟨es, sp, rfl, rfl⟩
  · omega
  · have h3 := bulk_len es
    have h4 := bulk_len sp
    simp only [Rows.uptoBulk] at h2
    omega
theorem small_str {H : Type} {l : List (DataW H)} (hk : Rows.uptoSmall H l = true) {s : ByteArray} (hd : DataW.lit (.string s.data.toList) ∈ l) : s.size ≤ 1048576 := by
  have h1 := small_all hk
  have h2 := bulk_part hd
  simp only [Rows.uptoBulk] at h2
  have e : s.data.toList.length = s.size := by rw [Array.length_toList]; rfl
  omega

end Go.Proofs.Ytipmmclahngabaa
