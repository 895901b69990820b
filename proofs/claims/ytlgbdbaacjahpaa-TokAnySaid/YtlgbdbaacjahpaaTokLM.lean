/-
  The document's line: bounds; a text's last line.
-/
import Derived.Test.YtlgbdbaacjahpaaTokLL
import Derived.Test.YtlgbdbaacjahpaaTokQ
namespace Go.Proofs.Ytlgbdbaacjahpaa
set_option maxRecDepth 20000
set_option linter.unusedVariables false
set_option linter.unusedSimpArgs false

def LM (K : Nat) (y : LS) : Prop := y.ewords.length ≤ K ∧ y.w.length ≤ K ∧ y.opn ≤ 8 ∧ y.out.length ≤ K
theorem LM.mono {K L : Nat} {y : LS} (h : LM K y) (hl : K ≤ L) : LM L y := ⟨by have := h.1; omega, by have := h.2.1; omega, h.2.2.1, by have := h.2.2.2; omega⟩
theorem LM.flush {K n : Nat} {y : LS} (h : LM K y) : LM (K + 1) (lFlush n y) := by
  obtain ⟨h1, h2, h3, h4⟩ := h
  have := flush_ewords n y
  have := flush_w n y
  have := flush_opn n y
  have := flush_out n y
  exact ⟨by omega, by omega, by omega, by rw [this]; omega⟩
theorem LM.begin {K : Nat} {b : Bool} {y : LS} (h : LM K y) : LM K (lBegin b y) := by
  obtain ⟨h1, h2, h3, h4⟩ := h
  unfold LM
  rw [begin_ewords, begin_wL, begin_opn, begin_out]
  exact ⟨h1, h2, h3, h4⟩
/-- The words grow by what is read, the entries by one at the line's end. -/
def LN (K O : Nat) (y : LS) : Prop := y.ewords.length ≤ K ∧ y.w.length ≤ K ∧ y.opn ≤ 8 ∧ y.out.length ≤ O
theorem LN.mono {K L O : Nat} {y : LS} (h : LN K O y) (hl : K ≤ L) : LN L O y := ⟨by have := h.1; omega, by have := h.2.1; omega, h.2.2.1, h.2.2.2⟩
theorem LN.flush {K O n : Nat} {y : LS} (h : LN K O y) : LN (K + 1) O (lFlush n y) := by
  obtain ⟨h1, h2, h3, h4⟩ := h
  have := flush_ewords n y
  have := flush_w n y
  have := flush_opn n y
  have := flush_out n y
  exact ⟨by omega, by omega, by omega, by rw [this]; omega⟩
theorem LN.begin {K O : Nat} {b : Bool} {y : LS} (h : LN K O y) : LN K O (lBegin b y) := by
  obtain ⟨h1, h2, h3, h4⟩ := h
  unfold LN
  rw [begin_ewords, begin_wL, begin_opn, begin_out]
  exact ⟨h1, h2, h3, h4⟩
theorem LN.end {K O : Nat} {y : LS} (h : LN K O y) : LN K (O + 1) (lEnd y) := by
  obtain ⟨h1, h2, h3, h4⟩ := h
  unfold lEnd
  split
  · exact ⟨h1, h2, h3, by omega⟩
  · refine ⟨Nat.zero_le _, h2, h3, ?_⟩
    show (if y.ewords = [] then y.out else y.out ++ [⟨y.eline, y.eblank, y.ewords⟩]).length ≤ O + 1
    split
    · omega
    · rw [List.length_append, List.length_singleton]; omega
theorem line_LN (b : Bool) (n O : Nat) : ∀ (m : Nat) (l : List UInt8), l.length ≤ m → ∀ (K : Nat) (y : LS), LN K O y → (lLine b n l y).2 = 0 → LN (K + l.length + 1) (O + 1) (lLine b n l y).1 := by
  intro m
  induction m with
  | zero =>
    intro l hl K y h _
    obtain rfl : l = [] := List.eq_nil_of_length_eq_zero (by omega)
    rw [lL_nil]
    exact (LN.flush (n := n) h).end
  | succ m ih =>
    intro l hl K y h
    match l with
    | [] => intro _; rw [lL_nil]; exact (LN.flush (n := n) h).end
    | c :: r =>
      simp only [List.length_cons] at hl ⊢
      by_cases h59 : c = 59
      · subst h59; rw [lL_remark]; intro _; exact (LN.flush (n := n) h).end.mono (by omega)
      by_cases hbl : c = 32 ∨ c = 9
      · rw [lL_blank b n r y hbl]
        intro h0
        exact (ih r (by omega) _ _ (LN.flush (n := n) h) h0).mono (by omega)
      by_cases h40 : c = 40
      · subst h40
        rw [lL_open]
        have hf := LN.begin (b := b) (LN.flush (n := n) h)
        split
        · intro h0; exact absurd (show (10 : Int) = 0 from h0) (by decide)
        · rename_i h8
          intro h0
          refine LN.mono (ih r (by omega) (K + 1) _ ?_ h0) (by omega)
          exact ⟨hf.1, hf.2.1, by show (lBegin b (lFlush n y)).opn + 1 ≤ 8; omega, hf.2.2.2⟩
      by_cases h41 : c = 41
      · subst h41
        rw [lL_shut]
        have hf := LN.flush (n := n) h
        split
        · intro h0; exact absurd (show (2 : Int) = 0 from h0) (by decide)
        · intro h0
          refine LN.mono (ih r (by omega) (K + 1) _ ?_ h0) (by omega)
          exact ⟨hf.1, hf.2.1, by show (lFlush n y).opn - 1 ≤ 8; have := hf.2.2.1; omega, hf.2.2.2⟩
      by_cases h34 : c = 34
      · subst h34
        have hf := LN.begin (b := b) (LN.flush (n := n) h)
        cases hq : lQuote (lBegin b (lFlush n y)).w r with
        | none => rw [lL_quote_no b n r y hq]; intro h0; exact absurd (show (2 : Int) = 0 from h0) (by decide)
        | some p =>
          have hlt := lQuote_lt _ r _ (Nat.le_refl _) p hq
          rw [lL_quote b n r y p hq]
          intro h0
          refine LN.mono (ih p.2 (by omega) (K + 2) _ ?_ h0) (by omega)
          refine ⟨?_, Nat.zero_le _, hf.2.2.1, hf.2.2.2⟩
          show ((lBegin b (lFlush n y)).ewords ++ [(p.1, true)]).length ≤ K + 2
          rw [List.length_append, List.length_singleton]
          have := hf.1
          omega
      by_cases h92 : c = 92
      · subst h92
        match r with
        | [] => rw [lL_stroke_no]; intro h0; exact absurd (show (2 : Int) = 0 from h0) (by decide)
        | z :: r2 =>
          simp only [List.length_cons] at hl ⊢
          rw [lL_stroke]
          intro h0
          have hf := LN.begin (b := b) h
          refine LN.mono (ih r2 (by omega) (K + 2) _ ?_ h0) (by omega)
          refine ⟨by have := hf.1; show (lBegin b y).ewords.length ≤ K + 2; omega, ?_, hf.2.2.1, hf.2.2.2⟩
          show ((lBegin b y).w ++ [92, z]).length ≤ K + 2
          have := hf.2.1
          rw [List.length_append]; simp; omega
      rw [lL_else b n r y h59 hbl h40 h41 h34 h92]
      intro h0
      have hf := LN.begin (b := b) h
      refine LN.mono (ih r (by omega) (K + 1) _ ?_ h0) (by omega)
      refine ⟨by have := hf.1; show (lBegin b y).ewords.length ≤ K + 1; omega, ?_, hf.2.2.1, hf.2.2.2⟩
      show ((lBegin b y).w ++ [c]).length ≤ K + 1
      have := hf.2.1
      rw [List.length_append, List.length_singleton]; omega
theorem line_LM (b : Bool) (n K : Nat) (l : List UInt8) (y : LS) (h : LM K y) (h0 : (lLine b n l y).2 = 0) : LM (K + l.length + 1) (lLine b n l y).1 := by
  obtain ⟨h1, h2, h3, h4⟩ := line_LN b n K l.length l (Nat.le_refl _) K y h h0
  exact ⟨h1, h2, h3, by omega⟩
theorem noCR_len (t : List UInt8) : (noCR t).length ≤ t.length := by unfold noCR; split <;> simp
theorem lTxt_last (m n : Nat) (l : List UInt8) (y : LS) (hl : l ≠ []) (h : ∀ c ∈ l, c ≠ 10) : lTxt (m + 1) n l y = if (lLine (blankOf l) n l y).2 = 0 then ((lLine (blankOf l) n l y).1, 0, 0) else ((lLine (blankOf l) n l y).1, n, (lLine (blankOf l) n l y).2) := by
  have hd : ∀ l : List UInt8, (∀ c ∈ l, c ≠ 10) → l.dropWhile (fun c => c != 10) = [] := by
    intro l
    induction l with
    | nil => intro _; rfl
    | cons c l ih =>
      intro h
      rw [List.dropWhile_cons, if_pos (by simpa using h c (by simp))]
      exact ih (fun d hd => h d (by simp [hd]))
  rw [lTxt, if_neg hl, hd l h]
end Go.Proofs.Ytlgbdbaacjahpaa
