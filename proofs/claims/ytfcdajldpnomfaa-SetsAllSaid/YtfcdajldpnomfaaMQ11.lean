/-
  Plain facts for law6.SetsAll.
-/
import Derived.Test.YtfcdajldpnomfaaMQ09
namespace Go.Proofs.Ytfcdajldpnomfaa
set_option maxRecDepth 20000
open Go.RowKit Go.Shelf
set_option maxRecDepth 20000
set_option linter.unusedVariables false
theorem compact_mem (zs : List Int) : ∀ (j : Nat) (h : j < zs.length), zs[j] ∈ Lib.compact zs
  | 0, h => by
    unfold Lib.compact Lib.compactUpTo
    refine List.mem_map.2 ⟨0, List.mem_filter.2 ⟨List.mem_range.2 h, by simp [Lib.keeps]⟩, ?_⟩
    simp [getElem!_pos, h]
  | j + 1, h => by
    by_cases e : zs[j + 1] = zs[j]'(by omega)
    · rw [e]; exact compact_mem zs j (by omega)
    · unfold Lib.compact Lib.compactUpTo
      refine List.mem_map.2 ⟨j + 1, List.mem_filter.2 ⟨List.mem_range.2 h, ?_⟩, ?_⟩
      · refine Lib.keeps_pos ?_
        simpa [getElem!_pos, h, show j < zs.length by omega] using e
      · simp [getElem!_pos, h]
theorem typesM_mem {l : List Rc} {s : St} (h : s ∈ setsM (canonM l)) : s.ty ∈ typesM s.owner l := by
  obtain ⟨a, ha, h1, h2⟩ := sets_type h
  have h3 : s.ty ∈ tysM s.owner l := by
    unfold tysM
    exact List.mem_map.2 ⟨a, List.mem_filter.2 ⟨ha, h1⟩, h2⟩
  have h4 : s.ty ∈ (tysM s.owner l).mergeSort fun x y => decide (x ≤ y) := List.mem_mergeSort.2 h3
  obtain ⟨j, hj, e⟩ := List.mem_iff_getElem.1 h4
  unfold typesM
  rw [← e]
  exact compact_mem _ j hj
theorem sets_ne {l : List Rc} {s : St} (h : s ∈ setsM (canonM l)) : 0 < s.data.length := by
  obtain ⟨y, r, e1, _, _⟩ := sets_filter _ _ (Nat.le_refl _) (canonM_can l).up s h
  rw [e1]; simp [stR]
theorem sets_ok {l : List Rc} {s : St} (hl : ∀ r ∈ l, RcOK r) (h : s ∈ setsM (canonM l)) : NmOK s.owner ∧ ∀ d ∈ s.data, DatOK d := by
  obtain ⟨y, r, e1, e2, e3⟩ := sets_filter _ _ (Nat.le_refl _) (canonM_can l).up s h
  have hc := canonM_ok' l hl
  have hyr : ∀ z ∈ y :: r, RcOK z := fun z hz => hc z (by
    have : z ∈ (canonM l).filter (belM s.owner s.ty) := by rw [e3]; exact hz
    exact (List.mem_filter.1 this).1)
  rw [e1]
  refine ⟨(hyr y (by simp)).1, fun d hd => ?_⟩
  simp only [stR, List.mem_cons, List.mem_map] at hd
  rcases hd with rfl | ⟨z, hz, rfl⟩
  · exact (hyr y (by simp)).2.2
  · exact (hyr z (by simp [hz])).2.2
theorem sets_sum (l : List Rc) : ((setsM (canonM l)).map fun s => s.data.length).sum = (canonM l).length := sets_count _ _ (Nat.le_refl _)
theorem sum_take (l : List St) : ∀ k, ((l.take k).map fun s => s.data.length).sum ≤ (l.map fun s => s.data.length).sum := by
  induction l with
  | nil => intro k; simp
  | cons x r ih =>
    intro k
    cases k with
    | zero => simp
    | succ k => simp only [List.take_succ_cons, List.map_cons, List.sum_cons]; have := ih k; omega
theorem typesM_len (o : Nm) (l : List Rc) : (typesM o l).length ≤ l.length := by
  unfold typesM
  exact Nat.le_trans (compact_len _) (by rw [List.length_mergeSort]; exact tysM_len o l)
end Go.Proofs.Ytfcdajldpnomfaa

