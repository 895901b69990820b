/-
  The document's names (package toponymref6): Under, Common.
-/
import Derived.Test.YtnpnfajgphpabaaMQ37
import Derived.Test.YtnpnfajgphpabaaMQ33
namespace Go.Proofs.Ytnpnfajgphpabaa
set_option linter.unusedVariables false
set_option linter.unusedSimpArgs false
set_option maxRecDepth 20000
open Go.RowKit Go.Shelf

theorem strs_cap {W : World} {a : Option Addr} {n c c' : Nat} {xs : Nm} (h : StrsAt W (.slice a n c) xs) : StrsAt W (.slice a n c') xs := by
  obtain ⟨a1, c1, e, hx⟩ := h
  cases e
  exact ⟨_, _, rfl, hx⟩
/-- What is left of a slice from d on, as the walk has it. -/
theorem nm_drop {W : World} {a : Option Addr} {c d : Nat} {xs : Nm} (h : NmAt W (.slice a xs.length c) xs) (hd : d ≤ xs.length) :
    (a = none ∧ xs = [] ∧ d = 0 ∧ c = 0) ∨ (∃ ad, a = some ad ∧ xs = [] ∧ d = 0) ∨ ∃ g off, a = some ⟨g, off, none⟩ ∧ NmAt W (.slice (if c = d then some ⟨g, off, none⟩ else some ⟨g, off + d, none⟩) (xs.length - d) (c - d)) (xs.drop d) := by
  obtain ⟨hA, a', n', c', e, hcap, hno⟩ := h
  cases e
  cases a with
  | none =>
    have h0 := hno rfl
    subst h0
    have hx : xs = [] := List.eq_nil_of_length_eq_zero (by omega)
    subst hx
    exact .inl ⟨rfl, rfl, by simpa using hd, rfl⟩
  | some ad =>
    by_cases hx : xs = []
    · subst hx; exact .inr (.inl ⟨ad, rfl, rfl, by simpa using hd⟩)
    · right; right
      obtain ⟨a1, c1, e1, h1⟩ := id hA
      cases e1
      rcases h1 with e | ⟨g, off, e, hg, hc⟩
      · exact absurd e hx
      · cases e
        exact ⟨g, off, rfl, strs_drop hA hcap d hd _, drop_ok hcap⟩

set_option maxHeartbeats 4000000 in
theorem ref_Under (v u : Value) (xs zs : Nm) (w : World) (hA : NmAt w v xs) (hU : StrsAt w u zs) (hk : NmOK xs) (hk2 : NmOK zs) :
    Calls Try.prog 17 #[v, u] w fun e w' => e = .returned (.bool (underN xs zs)) ∧ Below w.heap.size w w' := by
  obtain ⟨a, c, rfl, _⟩ := id hA.1
  obtain ⟨a2, c2, rfl, _⟩ := id hU
  have hl := hk.1; have hl2 := hk2.1
  have hcap : xs.length ≤ c := by obtain ⟨_, _, _, e, h, _⟩ := hA.2; cases e; exact h
  by_cases hlt : xs.length < zs.length
  · have H0 : Hid (underN xs zs = false) := Lib.hid (underN_short hlt)
    go_enter Try.func17, Try.ntmps17
    go_wp2
    go_ret
    exact ⟨by rw [H0.out]; rfl, Below.refl _ _⟩
  · have hS := fun v1 (h : StrsAt w v1 (xs.drop (xs.length - zs.length))) => ref_Same v1 (.slice a2 zs.length c2) (xs.drop (xs.length - zs.length)) zs w h hU ⟨by simp; omega, fun x hx => hk.2 x (List.mem_of_mem_drop hx)⟩ hk2
    have hu : underN xs zs = sameN (xs.drop (xs.length - zs.length)) zs := by
      unfold underN; rw [decide_eq_true (by omega), Bool.true_and]
    rw [← hu] at hS
    have hge : zs.length ≤ xs.length := by omega
    clear hu
    generalize underN xs zs = b at *
    rcases nm_drop hA (d := xs.length - zs.length) (by omega) with ⟨rfl, rfl, hd, rfl⟩ | ⟨ad, rfl, rfl, hd⟩ | ⟨g, off, rfl, hD⟩
    · obtain rfl : zs = [] := List.eq_nil_of_length_eq_zero (by simp at hge; simp [hge])
      have hS1 := hS (.slice none 0 0) (by rw [List.drop_nil]; exact ⟨_, _, rfl, .inl rfl⟩)
      clear hS hd hA hU
      simp only [List.length_nil] at hS1
      go_enter Try.func17, Try.ntmps17
      go_wp2_with (go_at_call 14; refine hS1.mono ?_; rintro e w2 ⟨rfl, hb2⟩)
      go_ret
      exact ⟨rfl, hb2⟩
    · obtain rfl : zs = [] := List.eq_nil_of_length_eq_zero (by simp at hge; simp [hge])
      have hS1 := fun a' c' => hS (.slice a' 0 c') (by rw [List.drop_nil]; exact ⟨_, _, rfl, .inl rfl⟩)
      clear hS hd hA hU
      simp only [List.length_nil] at hS1
      go_enter Try.func17, Try.ntmps17
      go_wp2_with (go_at_call 14; (with_reducible refine (hS1 _ _).mono ?_); rintro e w2 ⟨rfl, hb2⟩)
      all_goals go_ret
      all_goals exact ⟨rfl, hb2⟩
    · have hS1 := fun c' => hS _ (strs_cap (c' := c') hD.1)
      clear hS hA hU hD
      by_cases hcd : c = xs.length - zs.length
      · rw [if_pos hcd] at hS1
        go_enter Try.func17, Try.ntmps17
        go_wp2_with (go_at_call 14; (with_reducible refine (hS1 _).mono ?_); rintro e w2 ⟨rfl, hb2⟩)
        all_goals go_ret
        all_goals exact ⟨rfl, hb2⟩
      · rw [if_neg hcd] at hS1
        go_enter Try.func17, Try.ntmps17
        go_wp2_with (go_at_call 14; (with_reducible refine (hS1 _).mono ?_); rintro e w2 ⟨rfl, hb2⟩)
        all_goals go_ret
        all_goals exact ⟨rfl, hb2⟩

theorem common_first {xs ys : Nm} {k : Nat} (hk : k ≤ xs.length) (h : underN ys (xs.drop k) = true) (hn : ∀ j, j < k → underN ys (xs.drop j) = false) : commonN xs ys = xs.drop k := by
  have hl := sharedR_le xs.reverse ys.reverse
  simp only [List.length_reverse] at hl
  have h1 := common_deepest xs ys (xs.length - k) (by omega) (by rw [show xs.length - (xs.length - k) = k by omega]; exact h)
  rw [common_len] at h1
  have h2 := common_under_b xs ys
  unfold commonN at h2 ⊢
  by_cases hlt : xs.length - sharedR xs.reverse ys.reverse < k
  · rw [hn _ hlt] at h2; cases h2
  · congr 1; omega
def CommonPost (xs ys : Nm) (w : World) (e : Ending) (w' : World) : Prop := ∃ v', e = .returned v' ∧ NmAt w' v' (commonN xs ys) ∧ Below w.heap.size w w'

end Go.Proofs.Ytnpnfajgphpabaa

