/-
  The document's parting of a text (package toponymref6): Split: the parts that label.Split tells.
-/
import Derived.Test.YtbnkecmhmcligaaDoorMQ15
import Derived.Test.YtbnkecmhmcligaaDoorMQ39
import Derived.Test.YtbnkecmhmcligaaDoorMQ34
import Derived.RegionTactic
import Derived.ChangeAlike
import Derived.Test.YtbnkecmhmcligaaDoorMQ14
import Derived.Test.YtbnkecmhmcligaaDoorMQ17
namespace Go.Proofs.YtbnkecmhmcligaaDoor
set_option linter.unusedVariables false
set_option linter.unusedSimpArgs false
set_option maxRecDepth 20000
open Go.RowKit Go.Shelf

def RSplitPost (s : ByteArray) (w : World) (e : Ending) (w' : World) : Prop :=
  ∃ v, e = .returned (.tuple #[v, .int .i64 (splitM s.data.toList).2]) ∧ OwnG 9 strV w' w.heap.size v (splitM s.data.toList).1 ∧ Below w.heap.size w w'
theorem rsplit_fin {s : ByteArray} {w w' : World} {e : Ending} {v : Value} (l : List (List UInt8)) (er : Int) (h : splitM s.data.toList = (l, er)) (he : e = .returned (.tuple #[v, .int .i64 er])) (ho : OwnG 9 strV w' w.heap.size v l) (hw : Below w.heap.size w w') : RSplitPost s w e w' := by
  unfold RSplitPost; rw [h]; exact ⟨v, he, ho, hw⟩

theorem set_last (done : List (List UInt8)) (cur y : List UInt8) : (done ++ [cur]).set done.length y = done ++ [y] := by
  rw [List.set_append_right _ _ (Nat.le_refl _)]; simp
theorem get_last (done : List (List UInt8)) (cur : List UInt8) (h : done.length < (done ++ [cur]).length) : (done ++ [cur])[done.length] = cur := by simp
theorem extract_two (s : ByteArray) (k : Nat) (h : k + 1 < s.size) : s.extract k (k + 2) = ⟨#[s[k], s[k + 1]]⟩ := by
  apply ba_ext
  have h1 : (s.extract k (k + 2)).data.toList = (s.data.toList.take (k + 2)).drop k := by simp [ByteArray.data_extract, List.drop_take]
  rw [h1, take_snoc_get s (k + 1) h, take_snoc_get s k (by omega), List.append_assoc, List.drop_left' (by simp; omega)]; rfl

end Go.Proofs.YtbnkecmhmcligaaDoor

/-
  Where two names part, from the root's side on (plain facts).
-/
namespace Go.Proofs.YtbnkecmhmcligaaDoor
set_option linter.unusedVariables false
set_option linter.unusedSimpArgs false
set_option maxRecDepth 20000
open Go.RowKit Go.Shelf

theorem cmpR_get : ∀ (k : Nat) (p q : Nm), k ≤ p.length → k ≤ q.length → (∀ i (h1 : i < p.length) (h2 : i < q.length), i < k → compareM p[i] q[i] = 0) → cmpR p q = cmpR (p.drop k) (q.drop k)
  | 0, _, _ => by intro _ _ _; rfl
  | k + 1, [], _ => by intro h _ _; simp at h
  | k + 1, _ :: _, [] => by intro _ h _; simp at h
  | k + 1, x :: r, y :: t => by
    intro h1 h2 h
    have h0 : compareM x y = 0 := h 0 (by simp) (by simp) (by omega)
    rw [cmpR, if_pos h0]
    exact cmpR_get k r t (by simpa using h1) (by simpa using h2) (fun i a b c => h (i + 1) (by simpa using a) (by simpa using b) (by omega))
theorem sharedR_get : ∀ (k : Nat) (p q : Nm), k ≤ p.length → k ≤ q.length → (∀ i (h1 : i < p.length) (h2 : i < q.length), i < k → compareM p[i] q[i] = 0) → sharedR p q = k + sharedR (p.drop k) (q.drop k)
  | 0, _, _ => by intro _ _ _; simp
  | k + 1, [], _ => by intro h _ _; simp at h
  | k + 1, _ :: _, [] => by intro _ h _; simp at h
  | k + 1, x :: r, y :: t => by
    intro h1 h2 h
    have h0 : compareM x y = 0 := h 0 (by simp) (by simp) (by omega)
    rw [sharedR, if_pos h0]
    have := sharedR_get k r t (by simpa using h1) (by simpa using h2) (fun i a b c => h (i + 1) (by simpa using a) (by simpa using b) (by omega))
    simp only [List.drop_succ_cons]; omega

variable {xs ys : Nm}
/-- All that is at hand, from x on, is alike. -/
theorem rev_alike {m : Nat} (hm : m ≤ xs.length) (_hy : xs.length ≤ m + ys.length) (h : ∀ j (h1 : j < xs.length) (h2 : xs.length ≤ j + ys.length), m ≤ j → compareM xs[j] (ys[j + ys.length - xs.length]'(by omega)) = 0) :
    ∀ i (h1 : i < xs.reverse.length) (h2 : i < ys.reverse.length), i < xs.length - m → compareM xs.reverse[i] ys.reverse[i] = 0 := by
  intro i h1 h2 hi
  simp only [List.length_reverse] at h1 h2
  have := h (xs.length - 1 - i) (by omega) (by omega) (by omega)
  simp only [List.getElem_reverse]
  have e : ys.length - 1 - i = xs.length - 1 - i + ys.length - xs.length := by omega
  simp only [e]
  exact this
theorem compareN_even (h : ∀ j (h1 : j < xs.length) (h2 : xs.length ≤ j + ys.length), compareM xs[j] (ys[j + ys.length - xs.length]'(by omega)) = 0) :
    compareN xs ys = cmpI xs.length ys.length := by
  have e := cmpR_get (xs.length - (xs.length - ys.length)) xs.reverse ys.reverse (by simp) (by simp; omega) (rev_alike (by omega) (by omega) (fun j h1 h2 _ => h j h1 h2))
  unfold compareN; rw [e]
  rcases Nat.lt_trichotomy xs.length ys.length with hl | hl | hl
  · have e1 : xs.reverse.drop (xs.length - (xs.length - ys.length)) = [] := List.drop_eq_nil_of_le (by simp; omega)
    rw [e1]
    have e2 : ys.reverse.drop (xs.length - (xs.length - ys.length)) ≠ [] := by intro q; have := congrArg List.length q; simp at this; omega
    cases hq : ys.reverse.drop (xs.length - (xs.length - ys.length)) with
    | nil => exact absurd hq e2
    | cons y t => unfold cmpI; rw [if_pos (by omega)]; rfl
  · have e1 : xs.reverse.drop (xs.length - (xs.length - ys.length)) = [] := List.drop_eq_nil_of_le (by simp; omega)
    have e2 : ys.reverse.drop (xs.length - (xs.length - ys.length)) = [] := List.drop_eq_nil_of_le (by simp; omega)
    rw [e1, e2]; unfold cmpI; rw [if_neg (by omega), if_neg (by omega)]; rfl
  · have e1 : ys.reverse.drop (xs.length - (xs.length - ys.length)) = [] := List.drop_eq_nil_of_le (by simp; omega)
    rw [e1]
    have e2 : xs.reverse.drop (xs.length - (xs.length - ys.length)) ≠ [] := by intro q; have := congrArg List.length q; simp at this; omega
    cases hq : xs.reverse.drop (xs.length - (xs.length - ys.length)) with
    | nil => exact absurd hq e2
    | cons y t => unfold cmpI; rw [if_neg (by omega), if_pos (by omega)]; rfl
theorem rev_drop {l : Nm} {x : Nat} (h : x < l.length) : ∃ t, l.reverse.drop (l.length - 1 - x) = l[x] :: t := by
  refine ⟨l.reverse.drop (l.length - 1 - x + 1), ?_⟩
  rw [List.drop_eq_getElem_cons (by simp; omega)]
  congr 1
  simp only [List.getElem_reverse]
  congr 1; omega
theorem compareN_at (x : Nat) (h1 : x < xs.length) (h2 : xs.length ≤ x + ys.length) (hne : compareM xs[x] (ys[x + ys.length - xs.length]'(by omega)) ≠ 0)
    (h : ∀ j (h1 : j < xs.length) (h2 : xs.length ≤ j + ys.length), x < j → compareM xs[j] (ys[j + ys.length - xs.length]'(by omega)) = 0) :
    compareN xs ys = compareM xs[x] (ys[x + ys.length - xs.length]'(by omega)) := by
  have e := cmpR_get (xs.length - (x + 1)) xs.reverse ys.reverse (by simp) (by simp; omega) (rev_alike (by omega) (by omega) (fun j a b c => h j a b (by omega)))
  unfold compareN; rw [e]
  obtain ⟨t, ht⟩ := rev_drop h1
  obtain ⟨r, hr⟩ := rev_drop (l := ys) (x := x + ys.length - xs.length) (by omega)
  rw [show xs.length - (x + 1) = xs.length - 1 - x by omega, ht, show xs.length - 1 - x = ys.length - 1 - (x + ys.length - xs.length) by omega, hr, cmpR, if_neg hne]
theorem shared_at (x : Nat) (h1 : x < xs.length) (h2 : xs.length ≤ x + 1 + ys.length) (hne : ∀ h2 : xs.length ≤ x + ys.length, compareM xs[x] (ys[x + ys.length - xs.length]'(by omega)) ≠ 0)
    (h : ∀ j (h1 : j < xs.length) (h2 : xs.length ≤ j + ys.length), x < j → compareM xs[j] (ys[j + ys.length - xs.length]'(by omega)) = 0) :
    sharedR xs.reverse ys.reverse = xs.length - 1 - x := by
  have e := sharedR_get (xs.length - (x + 1)) xs.reverse ys.reverse (by simp) (by simp; omega) (rev_alike (by omega) (by omega) (fun j a b c => h j a b (by omega)))
  rw [e]
  obtain ⟨t, ht⟩ := rev_drop h1
  rw [show xs.length - (x + 1) = xs.length - 1 - x by omega, ht]
  by_cases hy : xs.length ≤ x + ys.length
  · obtain ⟨r, hr⟩ := rev_drop (l := ys) (x := x + ys.length - xs.length) (by omega)
    rw [show ys.reverse.drop (xs.length - 1 - x) = ys[x + ys.length - xs.length] :: r by rw [← hr]; congr 1; omega, sharedR, if_neg (hne hy)]; rfl
  · rw [show ys.reverse.drop (xs.length - 1 - x) = [] from List.drop_eq_nil_of_le (by simp; omega)]; rfl
theorem shared_all (h2 : xs.length ≤ ys.length) (h : ∀ j (h1 : j < xs.length) (h2 : xs.length ≤ j + ys.length), compareM xs[j] (ys[j + ys.length - xs.length]'(by omega)) = 0) :
    sharedR xs.reverse ys.reverse = xs.length := by
  have e := sharedR_get xs.length xs.reverse ys.reverse (by simp) (by simp; omega) (by
    have := rev_alike (xs := xs) (ys := ys) (m := 0) (by omega) (by omega) (fun j a b c => h j a b)
    simpa using this)
  rw [e, List.drop_eq_nil_of_le (by simp)]; simp [sharedR]

/-- What has come, from the root's side on, up to x. -/
theorem rev_prefix {n : Nat} {p : List (Fin n)} {x : Fin n} (h : (p ++ [x]) <+: (List.finRange n).reverse) : p.length + x.val + 1 = n ∧ ∀ j : Fin n, x.val < j.val → j ∈ p := by
  have hl : p.length + 1 ≤ n := by have := h.length_le; simpa using this
  have hg : ∀ i (h1 : i < p.length + 1), (p ++ [x])[i]'(by simpa using h1) = ⟨n - 1 - i, by omega⟩ := fun i h1 => by
    have := h.getElem (i := i) (by simpa using h1)
    rw [this]; simp only [List.getElem_reverse, List.length_finRange, List.getElem_finRange]
    rfl
  have hx := hg p.length (by omega)
  simp only [List.getElem_concat_length] at hx
  have hxv : x.val = n - 1 - p.length := by rw [hx]
  refine ⟨by omega, fun j hj => ?_⟩
  have hlt : n - 1 - j.val < p.length := by have := j.isLt; omega
  have := hg (n - 1 - j.val) (by omega)
  rw [List.getElem_append_left hlt] at this
  have e : p[n - 1 - j.val] = j := by rw [this]; apply Fin.ext; simp; have := j.isLt; omega
  exact e ▸ List.getElem_mem hlt
/-- Label j of the first name is alike the label of the second that lies as deep. -/
def AlikeAt (xs ys : Nm) (j : Fin xs.length) : Prop := ∃ d, ∃ h : d < ys.length, j.val + ys.length = d + xs.length ∧ compareM xs[j] ys[d] = 0
theorem AlikeAt.eq {j : Fin xs.length} (h : AlikeAt xs ys j) : xs.length ≤ j.val + ys.length ∧ ∀ h : j.val + ys.length - xs.length < ys.length, compareM xs[j] ys[j.val + ys.length - xs.length] = 0 := by
  obtain ⟨d, hd, e, h0⟩ := h
  obtain rfl : d = j.val + ys.length - xs.length := by omega
  exact ⟨by omega, fun _ => h0⟩
theorem of_compareM {a b : List UInt8} : sameM a b = true ↔ compareM a b = 0 := by rw [sameM_eq, decide_eq_true_iff]

end Go.Proofs.YtbnkecmhmcligaaDoor

/-
  Contract of name.Common.
-/
namespace Go.Proofs.YtbnkecmhmcligaaDoor
set_option linter.unusedVariables false
set_option linter.unusedSimpArgs false
set_option maxRecDepth 20000
open Go.RowKit Go.Shelf

section
attribute [local go_sem] Oper.semAt_some
end
end Go.Proofs.YtbnkecmhmcligaaDoor

