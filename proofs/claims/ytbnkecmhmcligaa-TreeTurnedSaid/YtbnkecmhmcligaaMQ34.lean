/-
  The document's names (package toponymref6): Under, Common.
-/
import Derived.Test.YtbnkecmhmcligaaMQ31
import Derived.Test.YtbnkecmhmcligaaMQ30
import Derived.IntWalk
namespace Go.Proofs.Ytbnkecmhmcligaa
set_option linter.unusedVariables false
set_option linter.unusedSimpArgs false
set_option maxRecDepth 20000
open Go.RowKit Go.Shelf

theorem strs_cap {W : World} {a : Option Addr} {n c c' : Nat} {xs : Nm} (h : StrsAt W (.slice a n c) xs) : StrsAt W (.slice a n c') xs := by
  obtain ⟨a1, c1, e, hx⟩ := h
  cases e
  exact ⟨_, _, rfl, hx⟩
/-- What is left of a slice from d on, as the walk has it. -/
theorem nm_drop {W : World} {a : Option Addr} {c d : Nat} {xs : Nm} (h : NmAt W (.slice a xs.length c) xs) (hd : d ≤ xs.length) :
    (a = none ∧ xs = [] ∧ d = 0 ∧ c = 0) ∨ (∃ ad, a = some ad ∧ xs = [] ∧ d = 0) ∨ ∃ g off, a = some ⟨g, off, none⟩ ∧ NmAt W (.slice (if c = d then some ⟨g, off, none⟩ else some ⟨g, off + d, none⟩) (xs.length - d) (c - d)) (xs.drop d) := by
  obtain ⟨hA, a', n', c', e, hcap, hno⟩ := h
  cases e
  cases a with
  | none =>
    have h0 := hno rfl
    subst h0
    have hx : xs = [] := List.eq_nil_of_length_eq_zero (by omega)
    subst hx
    exact .inl ⟨rfl, rfl, by simpa using hd, rfl⟩
  | some ad =>
    by_cases hx : xs = []
    · subst hx; exact .inr (.inl ⟨ad, rfl, rfl, by simpa using hd⟩)
    · right; right
      obtain ⟨a1, c1, e1, h1⟩ := id hA
      cases e1
      rcases h1 with e | ⟨g, off, e, hg, hc⟩
      · exact absurd e hx
      · cases e
        exact ⟨g, off, rfl, strs_drop hA hcap d hd _, drop_ok hcap⟩

theorem common_first {xs ys : Nm} {k : Nat} (hk : k ≤ xs.length) (h : underN ys (xs.drop k) = true) (hn : ∀ j, j < k → underN ys (xs.drop j) = false) : commonN xs ys = xs.drop k := by
  have hl := sharedR_le xs.reverse ys.reverse
  simp only [List.length_reverse] at hl
  have h1 := common_deepest xs ys (xs.length - k) (by omega) (by rw [show xs.length - (xs.length - k) = k by omega]; exact h)
  rw [common_len] at h1
  have h2 := common_under_b xs ys
  unfold commonN at h2 ⊢
  by_cases hlt : xs.length - sharedR xs.reverse ys.reverse < k
  · rw [hn _ hlt] at h2; cases h2
  · congr 1; omega
def CommonPost (xs ys : Nm) (w : World) (e : Ending) (w' : World) : Prop := ∃ v', e = .returned v' ∧ NmAt w' v' (commonN xs ys) ∧ Below w.heap.size w w'

end Go.Proofs.Ytbnkecmhmcligaa

/-
  The document's names (package toponymref6): Compare.
-/
namespace Go.Proofs.Ytbnkecmhmcligaa
set_option linter.unusedVariables false
set_option linter.unusedSimpArgs false
set_option maxRecDepth 20000
open Go.RowKit Go.Shelf

theorem rev_cons {xs : Nm} {k p : Nat} (h : xs.length = p + k + 1) (hp : p < xs.length) : xs.reverse.drop k = xs[p] :: xs.reverse.drop (k + 1) := by
  rw [List.drop_eq_getElem_cons (by simp; omega)]
  congr 1
  simp only [List.getElem_reverse]
  congr 1; omega
theorem cmpR_end (p q : Nm) (h : p = [] ∨ q = []) : cmpR p q = cmpI ((p.length : Int) - q.length) 0 := by
  cases p with
  | nil =>
    cases q with
    | nil => rfl
    | cons y t => simp only [cmpR]; unfold cmpI; rw [if_pos (by simp only [List.length_nil, List.length_cons]; omega)]
  | cons x r =>
    cases q with
    | nil => simp only [cmpR]; unfold cmpI; rw [if_neg (by simp only [List.length_nil, List.length_cons]; omega), if_pos (by simp only [List.length_nil, List.length_cons]; omega)]
    | cons y t => rcases h with h | h <;> cases h

end Go.Proofs.Ytbnkecmhmcligaa

