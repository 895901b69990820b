/-
  Names as lists of labels: what the functions of package name answer, as plain functions on lists; facts on them.
-/
import Derived.Test.YtoohhoillblaoaaFacts
import Derived.Test.YtoohhoillblaoaaStrs
namespace Go.Proofs.Ytoohhoillblaoaa
open Go.RowKit Go.Shelf

abbrev Nm := List (List UInt8)
def lenN (n : Nm) : Nat := 1 + (n.map fun x => 1 + x.length).sum
def checkL : Nm → Int
  | [] => 0
  | x :: r => if checkLabelM x = 0 then checkL r else checkLabelM x
def checkN (n : Nm) : Int := if checkL n = 0 then (if 255 < lenN n then 3 else 0) else checkL n
def textN (n : Nm) : List UInt8 := if n = [] then [46] else n.flatMap fun x => textL x ++ [46]
def foldN (n : Nm) : Nm := n.map foldL
def sameN (a b : Nm) : Bool := decide (foldN a = foldN b)
def underN (n z : Nm) : Bool := decide (z.length ≤ n.length) && sameN (n.drop (n.length - z.length)) z
def cmpR : Nm → Nm → Int
  | [], [] => 0
  | [], _ :: _ => -1
  | _ :: _, [] => 1
  | x :: r, y :: t => if compareM x y = 0 then cmpR r t else compareM x y
def compareN (a b : Nm) : Int := cmpR a.reverse b.reverse
def sharedR : Nm → Nm → Nat
  | x :: r, y :: t => if compareM x y = 0 then sharedR r t + 1 else 0
  | _, _ => 0
def commonN (a b : Nm) : Nm := a.drop (a.length - sharedR a.reverse b.reverse)
def parentN (n : Nm) : Nm := n.drop 1
def swapN (n f t : Nm) : Nm × Int :=
  if underN n f then (if checkN (n.take (n.length - f.length) ++ t) = 0 then (n.take (n.length - f.length) ++ t, 0) else ([], 7)) else ([], 12)
def wildN (n : Nm) : Bool := decide (n.head? = some [42])

theorem checkLabelM_cases (l : List UInt8) : checkLabelM l = 0 ∨ checkLabelM l = 8 ∨ checkLabelM l = 3 := by
  unfold checkLabelM; split
  · exact .inr (.inl rfl)
  · split
    · exact .inr (.inr rfl)
    · exact .inl rfl
theorem lenN_cons (x : List UInt8) (n : Nm) : lenN (x :: n) = lenN n + 1 + x.length := by simp [lenN]; omega
theorem lenN_snoc (n : Nm) (x : List UInt8) : lenN (n ++ [x]) = lenN n + 1 + x.length := by simp [lenN]; omega
theorem lenN_append (a b : Nm) : lenN (a ++ b) + 1 = lenN a + lenN b := by simp [lenN]; omega
theorem checkL_append (a b : Nm) : checkL (a ++ b) = if checkL a = 0 then checkL b else checkL a := by
  induction a with
  | nil => simp [checkL]
  | cons x a ih =>
    simp only [List.cons_append, checkL]
    split
    · exact ih
    · rfl
theorem checkL_snoc (a : Nm) (x : List UInt8) : checkL (a ++ [x]) = if checkL a = 0 then checkLabelM x else checkL a := by
  rw [checkL_append]; simp only [checkL]
  split
  · split
    · rename_i h; exact h.symm
    · rfl
  · rfl
/-- The first label that may not be tells. -/
theorem checkL_stop {a p : Nm} (h : p <+: a) (hp : checkL p ≠ 0) : checkL a = checkL p := by
  obtain ⟨t, rfl⟩ := h; rw [checkL_append, if_neg hp]
theorem checkN_of_stop {a p : Nm} (h : p <+: a) (hp : checkL p ≠ 0) : checkN a = checkL p := by
  unfold checkN; rw [checkL_stop h hp, if_neg hp]

theorem foldN_len (n : Nm) : (foldN n).length = n.length := by simp [foldN]
theorem sameN_iff (a b : Nm) : sameN a b = true ↔ foldN a = foldN b := by simp [sameN]
theorem sameM_iff (a b : List UInt8) : sameM a b = true ↔ foldL a = foldL b := by
  rw [sameM_eq, decide_eq_true_iff]; exact compareM_zero a b
theorem sameN_len {a b : Nm} (h : a.length ≠ b.length) : sameN a b = false := by
  unfold sameN; apply decide_eq_false; intro e; have := congrArg List.length e; simp [foldN] at this; exact h this
theorem sameN_of_get {a b : Nm} (h : a.length = b.length) (hs : ∀ j (h1 : j < a.length) (h2 : j < b.length), sameM a[j] b[j] = true) : sameN a b = true := by
  rw [sameN_iff]
  apply List.ext_getElem (by simp [foldN, h])
  intro j h1 h2
  simp only [foldN, List.getElem_map]
  exact (sameM_iff _ _).1 (hs j (by simpa [foldN] using h1) (by simpa [foldN] using h2))
theorem sameN_not_get {a b : Nm} (j : Nat) (h1 : j < a.length) (h2 : j < b.length) (hs : sameM a[j] b[j] = false) : sameN a b = false := by
  cases h : sameN a b with
  | false => rfl
  | true =>
    rw [sameN_iff] at h
    have : foldL a[j] = foldL b[j] := by
      have h3 : (foldN a)[j]'(by simp [foldN, h1]) = (foldN b)[j]'(by simp [foldN, h2]) := by simp only [h]
      simpa [foldN] using h3
    rw [(sameM_iff _ _).2 this] at hs; cases hs
theorem sameN_refl (a : Nm) : sameN a a = true := (sameN_iff _ _).2 rfl
theorem sameN_symm (a b : Nm) : sameN a b = sameN b a := by unfold sameN; exact decide_eq_decide.2 ⟨Eq.symm, Eq.symm⟩
theorem sameN_trans {a b c : Nm} (h1 : sameN a b = true) (h2 : sameN b c = true) : sameN a c = true := (sameN_iff _ _).2 (((sameN_iff _ _).1 h1).trans ((sameN_iff _ _).1 h2))
theorem foldL_idem (l : List UInt8) : foldL (foldL l) = foldL l := by
  unfold foldL; rw [List.map_map]; apply List.map_congr_left; intro c _; exact smallU_idem c
theorem sameN_fold (a : Nm) : sameN a (foldN a) = true := by
  rw [sameN_iff]; unfold foldN; rw [List.map_map]; apply List.map_congr_left; intro l _; exact (foldL_idem l).symm

/-! ### the order -/
theorem cmpR_range : ∀ a b : Nm, cmpR a b = -1 ∨ cmpR a b = 0 ∨ cmpR a b = 1
  | [], [] => .inr (.inl rfl)
  | [], _ :: _ => .inl rfl
  | _ :: _, [] => .inr (.inr rfl)
  | x :: r, y :: t => by
    simp only [cmpR]; split
    · exact cmpR_range r t
    · exact compareM_range x y
theorem cmpR_swap : ∀ a b : Nm, cmpR b a = - cmpR a b
  | [], [] => rfl
  | [], _ :: _ => rfl
  | _ :: _, [] => rfl
  | x :: r, y :: t => by
    simp only [cmpR]
    have h := compareM_swap x y
    by_cases e : compareM x y = 0
    · rw [if_pos e, if_pos (by omega)]; exact cmpR_swap r t
    · rw [if_neg e, if_neg (by omega)]; exact h
theorem cmpR_zero : ∀ a b : Nm, cmpR a b = 0 ↔ foldN a = foldN b
  | [], [] => by simp [cmpR, foldN]
  | [], _ :: _ => by simp [cmpR, foldN]
  | _ :: _, [] => by simp [cmpR, foldN]
  | x :: r, y :: t => by
    have ih := cmpR_zero r t
    have h := compareM_zero x y
    simp only [cmpR, foldN, List.map_cons, List.cons.injEq] at ih ⊢
    by_cases e : compareM x y = 0
    · rw [if_pos e, ih]; exact ⟨fun q => ⟨h.1 e, q⟩, fun q => q.2⟩
    · rw [if_neg e]; exact ⟨fun q => absurd q e, fun q => absurd (h.2 q.1) e⟩
theorem compareM_zero_left {x y z : List UInt8} (h : compareM x y = 0) : compareM y z = compareM x z := by
  have e := (compareM_zero x y).1 h
  rw [← compareM_foldl x z, ← compareM_foldl y z, e]
theorem cmpR_trans : ∀ a b c : Nm, cmpR a b ≤ 0 → cmpR b c ≤ 0 → cmpR a c ≤ 0
  | [], _, [] => by intro _ _; simp [cmpR]
  | [], _, _ :: _ => by intro _ _; simp [cmpR]
  | _ :: _, [], _ => by intro h _; simp [cmpR] at h
  | _ :: _, _ :: _, [] => by intro _ h; simp [cmpR] at h
  | x :: r, y :: t, z :: u => by
    have ih := cmpR_trans r t u
    simp only [cmpR]
    intro h1 h2
    by_cases e1 : compareM x y = 0
    · rw [if_pos e1] at h1
      rw [← compareM_zero_left (z := z) e1]
      by_cases e2 : compareM y z = 0
      · rw [if_pos e2] at h2 ⊢; exact ih h1 h2
      · rw [if_neg e2] at h2 ⊢; exact h2
    · rw [if_neg e1] at h1
      by_cases e2 : compareM y z = 0
      · have e3 : compareM x z = compareM x y := by
          have s1 := compareM_swap x z; have s2 := compareM_swap x y
          have := compareM_zero_left (x := y) (y := z) (z := x) e2
          omega
        rw [e3, if_neg e1]; exact h1
      · rw [if_neg e2] at h2
        have h3 := compareM_trans x y z h1 h2
        by_cases e3 : compareM x z = 0
        · exfalso
          have s1 := compareM_swap x y
          have := compareM_zero_left (x := x) (y := z) (z := y) e3
          have s2 := compareM_swap y z
          have r1 := compareM_range x y; have r2 := compareM_range y z
          omega
        · rw [if_neg e3]; exact h3
theorem foldN_reverse (a : Nm) : foldN a.reverse = (foldN a).reverse := by simp [foldN]
theorem compareN_zero (a b : Nm) : compareN a b = 0 ↔ sameN a b = true := by
  unfold compareN; rw [cmpR_zero, foldN_reverse, foldN_reverse, sameN_iff]
  exact ⟨fun h => List.reverse_inj.1 h, fun h => by rw [h]⟩
theorem compareN_swap (a b : Nm) : compareN b a = - compareN a b := cmpR_swap _ _
theorem compareN_range (a b : Nm) : compareN a b = -1 ∨ compareN a b = 0 ∨ compareN a b = 1 := cmpR_range _ _
theorem compareN_trans (a b c : Nm) (h1 : compareN a b ≤ 0) (h2 : compareN b c ≤ 0) : compareN a c ≤ 0 := cmpR_trans _ _ _ h1 h2

/-! ### below -/
theorem underN_iff (n z : Nm) : underN n z = true ↔ ∃ p, foldN n = p ++ foldN z := by
  unfold underN
  simp only [Bool.and_eq_true, decide_eq_true_eq, sameN_iff]
  constructor
  · rintro ⟨h, e⟩
    refine ⟨(foldN n).take (n.length - z.length), ?_⟩
    rw [← e]; simp [foldN, List.map_drop]
  · rintro ⟨p, e⟩
    have hl : n.length = p.length + z.length := by have := congrArg List.length e; simpa [foldN] using this
    refine ⟨by omega, ?_⟩
    have : foldN (n.drop (n.length - z.length)) = (foldN n).drop (n.length - z.length) := by simp [foldN, List.map_drop]
    rw [this, e, show n.length - z.length = p.length by omega, List.drop_left]
theorem underN_trans {a b c : Nm} (h1 : underN a b = true) (h2 : underN b c = true) : underN a c = true := by
  rw [underN_iff] at *
  obtain ⟨p, e1⟩ := h1; obtain ⟨q, e2⟩ := h2
  exact ⟨p ++ q, by rw [e1, e2, List.append_assoc]⟩
theorem underN_nil (a : Nm) : underN a [] = true := (underN_iff _ _).2 ⟨foldN a, by simp [foldN]⟩
theorem cmpR_ahead : ∀ (a b p : Nm), foldN a = foldN b ++ p → 0 ≤ cmpR a b
  | [], [], _ => by intro _; simp [cmpR]
  | [], _ :: _, _ => by intro h; simp [foldN] at h
  | _ :: _, [], _ => by intro _; simp [cmpR]
  | x :: r, y :: t, p => by
    intro h
    simp only [foldN, List.map_cons, List.cons_append, List.cons.injEq] at h
    simp only [cmpR]
    rw [if_pos ((compareM_zero x y).2 h.1)]
    exact cmpR_ahead r t p h.2
theorem compareN_under {a b : Nm} (h : underN a b = true) : 0 ≤ compareN a b := by
  obtain ⟨p, e⟩ := (underN_iff _ _).1 h
  unfold compareN
  refine cmpR_ahead _ _ p.reverse ?_
  rw [foldN_reverse, e, foldN_reverse, List.reverse_append]
theorem underN_len {a b : Nm} (h : underN a b = true) : b.length ≤ a.length := by
  obtain ⟨p, e⟩ := (underN_iff _ _).1 h
  have := congrArg List.length e; simp [foldN] at this; omega

end Go.Proofs.Ytoohhoillblaoaa
