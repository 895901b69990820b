/-
  Words of a zone's text: plain facts for TokQuotes.
-/
import Derived.Test.YtlgbdbaacjahpaaTokO
namespace Go.Proofs.Ytlgbdbaacjahpaa
set_option maxRecDepth 20000

theorem take_line : ∀ (t r : List UInt8), (∀ c ∈ t, c ≠ 10) → (t ++ 10 :: r).takeWhile (fun c => c != 10) = t ∧ (t ++ 10 :: r).dropWhile (fun c => c != 10) = 10 :: r := by
  intro t
  induction t with
  | nil => intro r _; simp
  | cons c t ih =>
    intro r h
    have hc : c ≠ 10 := h c (by simp)
    obtain ⟨h1, h2⟩ := ih r (fun d hd => h d (by simp [hd]))
    constructor
    · rw [List.cons_append, List.takeWhile_cons, if_pos (by simpa using hc), h1]
    · rw [List.cons_append, List.dropWhile_cons, if_pos (by simpa using hc), h2]
/-- A line and what is behind it. -/
theorem lTxt_line (m n : Nat) (t r : List UInt8) (y : LS) (h : ∀ c ∈ t, c ≠ 10) : lTxt (m + 1) n (t ++ 10 :: r) y =
    if (lLine (blankOf (noCR t)) n (noCR t) y).2 = 0 then lTxt m (n + 1) r (lLine (blankOf (noCR t)) n (noCR t) y).1 else ((lLine (blankOf (noCR t)) n (noCR t) y).1, n, (lLine (blankOf (noCR t)) n (noCR t) y).2) := by
  obtain ⟨h1, h2⟩ := take_line t r h
  rw [lTxt, if_neg (by simp), h2, h1]
theorem lTxt_nil (m n : Nat) (y : LS) : lTxt m n [] y = (y, 0, 0) := by cases m <;> simp [lTxt]
theorem lQuote_run : ∀ (s w r : List UInt8), (∀ c ∈ s, c ≠ 34 ∧ c ≠ 92) → lQuote w (s ++ 34 :: r) = some (w ++ s, r) := by
  intro s
  induction s with
  | nil => intro w r _; rw [List.nil_append, lQ_cons, if_pos rfl, List.append_nil]
  | cons c s ih =>
    intro w r h
    obtain ⟨h1, h2⟩ := h c (by simp)
    rw [List.cons_append, lQ_cons, if_neg h1, if_neg h2, ih _ _ (fun d hd => h d (by simp [hd])), List.append_assoc]; rfl
theorem quotes_ent (s : List UInt8) (h : ∀ c ∈ s, c ≠ 34 ∧ c ≠ 92 ∧ c ≠ 10) : entL (97 :: 34 :: (s ++ [34, 98, 10])) = ([⟨1, false, [([97], false), (s, true), ([98], false)]⟩], 0, 0) := by
  have h10 : ∀ c ∈ (97 :: 34 :: (s ++ [34, 98]) : List UInt8), c ≠ 10 := by
    intro c hc
    simp only [List.mem_cons, List.mem_append, List.not_mem_nil, or_false] at hc
    rcases hc with rfl | rfl | hc | rfl | rfl
    · decide
    · decide
    · exact (h c hc).2.2
    · decide
    · decide
  have e1 : (97 :: 34 :: (s ++ [34, 98, 10]) : List UInt8) = (97 :: 34 :: (s ++ [34, 98])) ++ 10 :: [] := by simp
  have hn : noCR (97 :: 34 :: (s ++ [34, 98])) = 97 :: 34 :: (s ++ [34, 98]) := by
    unfold noCR
    rw [if_neg]
    have e : (97 :: 34 :: (s ++ [34, 98]) : List UInt8) = (97 :: 34 :: (s ++ [34])) ++ [98] := by simp
    rw [e, List.getLast?_append]
    simp
  have hl : lLine false 1 (97 :: 34 :: (s ++ [34, 98])) ls0 = ({ ls0 with out := [⟨1, false, [([97], false), (s, true), ([98], false)]⟩] }, 0) := by
    rw [lL_else _ _ _ _ (by decide) (by decide) (by decide) (by decide) (by decide) (by decide)]
    have hq := lQuote_run s [] [98] (fun c hc => ⟨(h c hc).1, (h c hc).2.1⟩)
    rw [lL_quote false 1 (s ++ [34, 98]) { lBegin false ls0 with inn := true, w := (lBegin false ls0).w ++ [97] } (s, [98]) hq, lL_else _ _ _ _ (by decide) (by decide) (by decide) (by decide) (by decide) (by decide), lL_nil]
    rfl
  have hb : blankOf (97 :: 34 :: (s ++ [34, 98])) = false := rfl
  have ht : lTxt ((97 :: 34 :: (s ++ [34, 98, 10])).length + 1) 1 (97 :: 34 :: (s ++ [34, 98, 10])) ls0 = ({ ls0 with out := [⟨1, false, [([97], false), (s, true), ([98], false)]⟩] }, 0, 0) := by
    generalize (97 :: 34 :: (s ++ [34, 98, 10]) : List UInt8).length = m
    rw [e1, lTxt_line _ _ _ _ _ h10, hn, hb, hl, if_pos rfl, lTxt_nil]
  unfold entL
  rw [ht]
  rfl
end Go.Proofs.Ytlgbdbaacjahpaa
