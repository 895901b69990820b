/-
  Words of a zone's text: the machine's parts grow by at most one with each octet.
-/
import Derived.Test.YtlgbdbaacjahpaaTokO
namespace Go.Proofs.Ytlgbdbaacjahpaa
set_option maxRecDepth 20000

def KMax (k : Nat) (x : KS) : Prop := x.ewords.length ≤ k ∧ x.word.length ≤ k ∧ x.done.length ≤ k ∧ x.opn.length ≤ 8
theorem KMax.mono {k l : Nat} {x : KS} (h : KMax k x) (hl : k ≤ l) : KMax l x := ⟨by have := h.1; omega, by have := h.2.1; omega, by have := h.2.2.1; omega, h.2.2.2⟩
theorem endWord_max {k : Nat} {x : KS} (h : KMax k x) : KMax (k + 1) (kEndWord x) := by
  obtain ⟨h1, h2, h3, h4⟩ := h
  refine ⟨?_, by simp [kEndWord], by show x.done.length ≤ k + 1; omega, h4⟩
  unfold kEndWord
  simp only
  split
  · rw [List.length_append, List.length_singleton]; omega
  · omega
theorem start_max {k : Nat} {x : KS} (h : KMax k x) : KMax k (kStart x) := by unfold kStart; split <;> exact h
theorem begin_max {k n : Nat} {x : KS} (h : KMax k x) : KMax k (kBegin n x) := by
  unfold kBegin
  split
  · exact h
  · split <;> exact start_max h
theorem add_max {k n : Nat} {c : UInt8} {x : KS} (h : KMax k x) : KMax (k + 1) (kAdd n c x) := by
  obtain ⟨h1, h2, h3, h4⟩ := begin_max (n := n) h
  refine ⟨by show (kBegin n x).ewords.length ≤ k + 1; omega, ?_, by show (kBegin n x).done.length ≤ k + 1; omega, h4⟩
  show ((kBegin n x).word ++ [c]).length ≤ k + 1
  rw [List.length_append, List.length_singleton]; omega
theorem open_max {k n : Nat} {x : KS} (h : KMax k x) : KMax k (kOpen n x).1 := by
  unfold kOpen
  by_cases h8 : x.opn.length = 8
  · rw [if_pos h8]; exact h
  · rw [if_neg h8]
    obtain ⟨h1, h2, h3, h4⟩ := start_max h
    refine ⟨h1, h2, h3, ?_⟩
    show ((kStart x).opn ++ [n]).length ≤ 8
    have e : (kStart x).opn = x.opn := by unfold kStart; split <;> rfl
    rw [e, List.length_append, List.length_singleton]
    have := h.2.2.2
    omega
theorem shut_max {k : Nat} {x : KS} (h : KMax k x) : KMax k (kShut x).1 := by
  unfold kShut
  split
  · exact h
  · obtain ⟨h1, h2, h3, h4⟩ := h
    refine ⟨h1, h2, h3, ?_⟩
    show x.opn.dropLast.length ≤ 8
    rw [List.length_dropLast]; omega
theorem plain_max {k n : Nat} {c : UInt8} {x : KS} (h : KMax k x) : KMax (k + 1) (kPlain n c x).1 := by
  unfold kPlain
  split
  · exact endWord_max h
  split
  · exact endWord_max h
  split
  · exact open_max (endWord_max h)
  split
  · exact shut_max (endWord_max h)
  split
  · split
    · exact endWord_max h
    · exact begin_max (n := n) (endWord_max h)
  · exact add_max h
theorem rest_max {k : Nat} {x : KS} (h : KMax k x) : KMax (k + 1) (kRest x) := by
  obtain ⟨h1, h2, h3, h4⟩ := h
  unfold kRest
  split
  · exact ⟨by omega, by omega, by omega, h4⟩
  · refine ⟨by simp, by show x.word.length ≤ k + 1; omega, ?_, h4⟩
    simp only
    split
    · omega
    · rw [List.length_append, List.length_singleton]; omega
theorem end_max {k : Nat} {x : KS} (h : KMax k x) : KMax (k + 2) (kEnd x).1 := by
  unfold kEnd
  split
  · exact h.mono (by omega)
  · exact rest_max (k := k + 1) (x := { kEndWord x with fresh := true, remark := false }) (endWord_max h)
theorem take_max {k n : Nat} {c : UInt8} {x : KS} (h : KMax k x) : KMax (k + 2) (kTake n c x).1 := by
  unfold kTake
  have hf : KMax k (kFresh c x) := by unfold kFresh; split <;> exact h
  generalize kFresh c x = y at hf ⊢
  unfold kTake0
  have hw : ∀ (z : KS), z.ewords = y.ewords → z.word = y.word ++ [c] → z.done = y.done → z.opn = y.opn → KMax (k + 2) z := by
    intro z e1 e2 e3 e4
    obtain ⟨h1, h2, h3, h4⟩ := hf
    refine ⟨by rw [e1]; omega, by rw [e2, List.length_append, List.length_singleton]; omega, by rw [e3]; omega, by rw [e4]; exact h4⟩
  split
  · exact end_max hf
  split
  · exact hf.mono (by omega)
  split
  · exact hw _ rfl rfl rfl rfl
  split
  · exact (add_max (n := n) (c := c) hf).mono (by omega)
  split
  · exact hw _ rfl rfl rfl rfl
  · exact (plain_max hf).mono (by omega)
/-- No more octets than the text has, and one. -/
theorem octE_len : ∀ (l : List UInt8) (n : Nat) (p : Bool), (octE n p l).length ≤ l.length + 1 := by
  intro l
  induction l with
  | nil => intro n p; unfold octE; split <;> simp
  | cons c l ih =>
    intro n p
    rw [octE]
    split
    · have := ih n true; simp only [List.length_cons]; omega
    · have := ih (if c = 10 then n + 1 else n) (decide (c ≠ 10)); simp only [List.length_cons]; omega
end Go.Proofs.Ytlgbdbaacjahpaa
