/-
  The document's Canon. (Written by wip/tools/gen5c.py.)
-/
import Derived.Test.YtckammgnmgkieaaGreatMQ16
import Derived.Test.YtckammgnmgkieaaGreatMQ17
import Derived.Test.YtckammgnmgkieaaGreatMQ29
import Derived.Test.YtckammgnmgkieaaGreatMQ38
import Derived.Test.YtckammgnmgkieaaGreatMQ40
import Derived.Test.YtckammgnmgkieaaGreatMQ39
import Derived.Test.YtckammgnmgkieaaGreatMQ09
import Derived.Test.YtckammgnmgkieaaGreatMQ26
namespace Go.Proofs.YtckammgnmgkieaaGreat
set_option maxRecDepth 20000
open Go.RowKit Go.Shelf
set_option maxRecDepth 20000
set_option linter.unusedVariables false
set_option linter.unusedSimpArgs false

theorem rcs_one {W : World} {x : List Value} {a : Rc} (h : RcAt W x a) : Rcs W [x] [a] := by
  refine ⟨rfl, fun i h1 h2 => ?_⟩
  match i, h1 with
  | 0, _ => exact h
theorem Rcs.set {W : World} {css : List (List Value)} {rs : List Rc} (h : Rcs W css rs) (k : Nat) {cs : List Value} {r : Rc} (hc : RcAt W cs r) : Rcs W (css.set k cs) (rs.set k r) := by
  refine ⟨by simp [h.1], fun i h1 h2 => ?_⟩
  rw [List.length_set] at h1 h2
  rw [List.getElem_set, List.getElem_set]
  by_cases hi : k = i
  · rw [if_pos hi, if_pos hi]; exact hc
  · rw [if_neg hi, if_neg hi]; exact h.2 i h1 h2
theorem Rcs.append {W : World} {a c : List (List Value)} {b d : List Rc} (h : Rcs W a b) (g : Rcs W c d) : Rcs W (a ++ c) (b ++ d) := by
  have hl := h.1
  refine ⟨by simp [h.1, g.1], fun i h1 h2 => ?_⟩
  rw [List.length_append] at h1 h2
  by_cases hi : i < a.length
  · rw [List.getElem_append_left hi, List.getElem_append_left (by omega)]
    exact h.2 i hi (by omega)
  · rw [List.getElem_append_right (by omega), List.getElem_append_right (by omega)]
    have e : i - b.length = i - a.length := by rw [hl]
    simp only [e]
    exact g.2 (i - a.length) (by omega) (by omega)
theorem Rcs.take {W : World} {a : List (List Value)} {b : List Rc} (h : Rcs W a b) (k : Nat) : Rcs W (a.take k) (b.take k) := by
  refine ⟨by simp [h.1], fun i h1 h2 => ?_⟩
  rw [List.length_take] at h1 h2
  rw [List.getElem_take, List.getElem_take]
  exact h.2 i (by omega) (by omega)
theorem Rcs.drop {W : World} {a : List (List Value)} {b : List Rc} (h : Rcs W a b) (k : Nat) : Rcs W (a.drop k) (b.drop k) := by
  refine ⟨by simp [h.1], fun i h1 h2 => ?_⟩
  rw [List.length_drop] at h1 h2
  rw [List.getElem_drop, List.getElem_drop]
  exact h.2 (k + i) (by omega) (by omega)
theorem Rcs.gap {W : World} {css : List (List Value)} {rs : List Rc} (h : Rcs W css rs) (k : Nat) {cs : List Value} {r : Rc} (hc : RcAt W cs r) : Rcs W (css.take k ++ [cs] ++ css.drop k) (rs.take k ++ [r] ++ rs.drop k) :=
  ((h.take k).append (rcs_one hc)).append (h.drop k)
theorem RcAt.withTTL {W : World} {x0 x1 x2 x3 x4 x5 x6 : Value} {y : Rc} (t : Nat) (h : RcAt W [x0, x1, x2, x3, x4, x5, x6] y) : RcAt W [x0, .int .u32 (t : Int), x2, x3, x4, x5, x6] ⟨y.owner, t, y.data⟩ := by
  obtain ⟨vo, vn, vu, vt, vr, e, h1, h2⟩ := h
  simp only [List.cons.injEq, and_true] at e
  obtain ⟨rfl, rfl, rfl, rfl, rfl, rfl, rfl⟩ := e
  exact ⟨_, _, _, _, _, rfl, h1, h2⟩
theorem OwnC.some' {T : TypeId} {W : World} {base n c : Nat} {ga : Option Addr} {css : List (List Value)} (h : OwnC 7 T W base (.slice ga n c) css) : (ga = none ∧ n = 0 ∧ c = 0 ∧ css = []) ∨ ∃ g cur, ga = some ⟨g, 0, none⟩ ∧ base ≤ g ∧ W.heap[g]? = some (.cells cur T) ∧ n ≤ c ∧ css.length = n := by
  obtain ⟨hl, h⟩ := h
  rcases h with ⟨e, e2⟩ | ⟨g', cap, cur, e, hb, hg, hc, hm, hsz, htk⟩
  · cases e; exact .inl ⟨rfl, rfl, rfl, List.eq_nil_of_length_eq_zero e2⟩
  · cases e; exact .inr ⟨g', cur, rfl, hb, hg, hc, rfl⟩
theorem minT_lt {a b : Nat} (h : b < a) : minT a b = b := by unfold minT; rw [if_pos h]
theorem minT_ge {a b : Nat} (h : ¬ b < a) : minT a b = a := by unfold minT; rw [if_neg h]
theorem one7 {W : World} {css : List (List Value)} {rs : List Rc} (h : Rcs W css rs) : ∀ cs ∈ css, ∀ u ∈ cs, u.oneCell' = true := fun cs hc => by
  obtain ⟨i, hi, rfl⟩ := List.mem_iff_getElem.1 hc
  exact (h.2 i hi (by have := h.1; omega)).one
end Go.Proofs.YtckammgnmgkieaaGreat

