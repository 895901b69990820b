/-
  Words of a zone's text: plain facts for TokPlain and TokBrackets: a word without signs.
-/
import Derived.Test.YtlgbdbaacjahpaaTokQ
namespace Go.Proofs.Ytlgbdbaacjahpaa
set_option maxRecDepth 20000

/-- An octet that is no blank, no end and no sign. -/
def PlainC (c : UInt8) : Prop := c ≠ 59 ∧ ¬ (c = 32 ∨ c = 9) ∧ c ≠ 40 ∧ c ≠ 41 ∧ c ≠ 34 ∧ c ≠ 92 ∧ c ≠ 10 ∧ c ≠ 13
theorem plainC_of {c : UInt8} (h : 32 < c.toNat) (h1 : c ≠ 34) (h2 : c ≠ 40) (h3 : c ≠ 41) (h4 : c ≠ 59) (h5 : c ≠ 92) : PlainC c := by
  refine ⟨h4, ?_, h2, h3, h1, h5, ?_, ?_⟩
  · rintro (e | e) <;> (subst e; revert h; decide)
  · intro e; subst e; revert h; decide
  · intro e; subst e; revert h; decide
theorem begin_w (b : Bool) (y : LS) : (lBegin b y).w = y.w := by unfold lBegin; split <;> rfl
theorem begin_twice (b : Bool) (y : LS) (w : List UInt8) : lBegin b { lBegin b y with inn := true, w := w } = { lBegin b y with inn := true, w := w } := by
  unfold lBegin
  cases h : y.on <;> simp [h]
theorem word_run (b : Bool) (n : Nat) (r : List UInt8) : ∀ (w : List UInt8) (y : LS), (∀ c ∈ w, PlainC c) → w ≠ [] → lLine b n (w ++ r) y = lLine b n r { lBegin b y with inn := true, w := y.w ++ w } := by
  intro w
  induction w with
  | nil => intro y _ h; exact absurd rfl h
  | cons c w ih =>
    intro y h _
    obtain ⟨h1, h2, h3, h4, h5, h6, _⟩ := h c (by simp)
    rw [List.cons_append, lL_else _ _ _ _ h1 h2 h3 h4 h5 h6, begin_w]
    by_cases hw : w = []
    · subst hw; rfl
    · rw [ih _ (fun d hd => h d (by simp [hd])) hw, begin_twice, List.append_assoc]
      rfl
/-- A word and a blank. -/
theorem word_blank (b : Bool) (n : Nat) (r w : List UInt8) (y : LS) (h : ∀ c ∈ w, PlainC c) (hw : w ≠ []) (hy : y.w = []) :
    lLine b n (w ++ 32 :: r) y = lLine b n r { lBegin b y with eline := (if y.ewords = [] then n else y.eline), ewords := y.ewords ++ [(w, false)], w := [], inn := false } := by
  rw [word_run b n _ w y h hw, lL_blank b n r _ (.inl rfl), hy, List.nil_append]
  have he : (lBegin b y).ewords = y.ewords := by unfold lBegin; split <;> rfl
  have hl : (lBegin b y).eline = y.eline := by unfold lBegin; split <;> rfl
  unfold lFlush lPut
  simp [he, hl]
end Go.Proofs.Ytlgbdbaacjahpaa
