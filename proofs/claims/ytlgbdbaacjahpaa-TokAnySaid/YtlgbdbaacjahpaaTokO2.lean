/-
  The boxed scan speaks of cells alone; its bounds.
-/
import Derived.Test.YtlgbdbaacjahpaaTokX
import Derived.Test.YtlgbdbaacjahpaaTokP
import Derived.RangeFuncBox
import Derived.RangeFuncNested
namespace Go.Proofs.Ytlgbdbaacjahpaa
open Go.RowKit Go.Shelf
set_option maxRecDepth 20000

theorem OwnK.own_ne {α : Type} {k : Nat} {T : TypeId} {enc : α → List Value} {W : World} {base : Nat} {v : Value} {xs : List α} {row : Option Nat} (h : OwnK k T enc W base v xs) (hr : ∀ r, row = some r → ∃ o : Obj, W.heap[r]? = some o ∧ o.isCells = false) : v.ownBlock = none ∨ v.ownBlock ≠ row := by
  rcases h.2 with ⟨rfl, _⟩ | ⟨g, cap, cur, rfl, _, hgb, _⟩
  · exact .inl rfl
  · refine .inr fun e' => ?_
    obtain ⟨o, ho, hc⟩ := hr g (by simpa [Value.ownBlock] using e'.symm)
    rw [hgb] at ho; cases ho; cases hc
theorem sBox_own {β : Type} (B base : Nat) (f : β → KS) : Own (fun s W => SBox W B base (f s)) := by
  rintro s X Y row ⟨vd, ve, vo, vw, hb, h1, h2, h3, h4⟩ hg hr
  have hne : some B ≠ row := by
    intro e
    obtain ⟨o, ho, hc⟩ := hr B e.symm
    rw [hb] at ho; cases ho; cases hc
  refine ⟨vd, ve, vo, vw, (hg.block B (kblock_lt hb) hne).trans hb, ?_, OwnK.kept h2 hg (OwnK.own_ne h2 hr), h3.kept hg (h3.own_ne hr), h4.kept hg (h4.own_ne hr)⟩
  refine h1.kept hg ?_ ?_
  · obtain ⟨ds, g1, _⟩ := h1; exact g1.own_ne hr
  · rintro u ⟨xs, hu⟩ _; exact OwnK.own_ne hu hr
theorem smax_of {k : Nat} {x : KS} (h : KMax k x) (hk : k ≤ 1000000) : SMax x := by
  obtain ⟨h1, h2, h3, h4⟩ := h
  exact ⟨by omega, by omega, by omega, h4⟩
/-- Behind a part of the octets that was taken without an error. -/
theorem txt_snoc : ∀ (l : List (Nat × UInt8)) (p : Nat × UInt8) (x y : KS), kTxt l x = (y, 0, 0) → kTxt (l ++ [p]) x = if (kTake p.1 p.2 y).2 = 0 then ((kTake p.1 p.2 y).1, 0, 0) else ((kTake p.1 p.2 y).1, p.1, (kTake p.1 p.2 y).2) := by
  intro l
  induction l with
  | nil =>
    intro p x y h
    rw [kTxt] at h
    obtain rfl : x = y := congrArg Prod.fst h
    rw [List.nil_append, kTxt]
    rfl
  | cons q l ih =>
    intro p x y h
    rw [kTxt] at h
    rw [List.cons_append, kTxt]
    by_cases hq : (kTake q.1 q.2 x).2 = 0
    · rw [if_pos hq] at h
      rw [if_pos hq]
      exact ih p _ y h
    · rw [if_neg hq] at h
      have h2 : (kTake q.1 q.2 x).2 = 0 := congrArg (fun t => t.2.2) h
      exact absurd h2 hq
theorem txt_max : ∀ (l : List (Nat × UInt8)) (k : Nat) (x : KS), KMax k x → KMax (k + 2 * l.length) (kTxt l x).1 := by
  intro l
  induction l with
  | nil => intro k x h; exact h
  | cons p l ih =>
    intro k x h
    rw [kTxt]
    have h2 := take_max (n := p.1) (c := p.2) h
    split
    · have := ih (k + 2) _ h2
      exact this.mono (by simp only [List.length_cons]; omega)
    · exact h2.mono (by simp only [List.length_cons]; omega)
end Go.Proofs.Ytlgbdbaacjahpaa
