/-
  Plain facts on labels: the order, letters great and small, words and back.
-/
import Derived.Test.YtbnkecmhmcligaaDoorMQ12
import Derived.Test.YtbnkecmhmcligaaDoorMQ38
import Derived.Test.YtbnkecmhmcligaaDoorMQ02
import Derived.Test.YtbnkecmhmcligaaDoorMQ39
namespace Go.Proofs.YtbnkecmhmcligaaDoor
set_option linter.unusedVariables false
set_option linter.unusedSimpArgs false
set_option maxRecDepth 20000
open Go.RowKit Go.Shelf

theorem smallU_idem (c : UInt8) : smallU (smallU c) = smallU c := by
  unfold smallU
  by_cases h : 65 ≤ c.toNat ∧ c.toNat ≤ 90
  · rw [if_pos h, if_neg]
    rw [UInt8.toNat_add]; simp; omega
  · rw [if_neg h, if_neg h]
theorem cmpI_cases (a b : Int) : (cmpI a b = -1 ∧ a < b) ∨ (cmpI a b = 0 ∧ a = b) ∨ (cmpI a b = 1 ∧ b < a) := by
  unfold cmpI
  by_cases h : a < b
  · left; rw [if_pos h]; exact ⟨rfl, h⟩
  · by_cases h2 : b < a
    · right; right; rw [if_neg h, if_pos h2]; exact ⟨rfl, h2⟩
    · right; left; rw [if_neg h, if_neg h2]; exact ⟨rfl, by omega⟩
theorem compareM_range : ∀ a b : List UInt8, compareM a b = -1 ∨ compareM a b = 0 ∨ compareM a b = 1
  | [], [] => by simp [compareM]
  | [], _ :: _ => by simp [compareM]
  | _ :: _, [] => by simp [compareM]
  | x :: a, y :: b => by
    by_cases h : smallU x = smallU y
    · simp only [compareM, h, if_true]; exact compareM_range a b
    · simp only [compareM, h, if_false]; have := cmpI_cases (smallU x).toNat (smallU y).toNat; omega
theorem compareM_swap : ∀ a b : List UInt8, compareM b a = - compareM a b
  | [], [] => by simp [compareM]
  | [], _ :: _ => by simp [compareM]
  | _ :: _, [] => by simp [compareM]
  | x :: a, y :: b => by
    by_cases h : smallU x = smallU y
    · simp only [compareM, h, if_true]; exact compareM_swap a b
    · simp only [compareM, h, if_false, Ne.symm h]
      have h1 := cmpI_cases (smallU x).toNat (smallU y).toNat
      have h2 := cmpI_cases (smallU y).toNat (smallU x).toNat
      omega
theorem compareM_zero : ∀ a b : List UInt8, compareM a b = 0 ↔ foldL a = foldL b
  | [], [] => by simp [compareM, foldL]
  | [], _ :: _ => by simp [compareM, foldL]
  | _ :: _, [] => by simp [compareM, foldL]
  | x :: a, y :: b => by
    have ih := compareM_zero a b
    by_cases h : smallU x = smallU y
    · simp only [compareM, h, if_true, ih, foldL, List.map_cons, List.cons.injEq, true_and]
    · have hn : (smallU x).toNat ≠ (smallU y).toNat := fun e => h (UInt8.toNat_inj.1 e)
      have h1 := cmpI_cases (smallU x).toNat (smallU y).toNat
      simp only [compareM, h, if_false, foldL, List.map_cons, List.cons.injEq, false_and, iff_false]
      omega
theorem compareM_foldl : ∀ a b : List UInt8, compareM (foldL a) b = compareM a b
  | [], [] => rfl
  | [], _ :: _ => rfl
  | _ :: _, [] => rfl
  | x :: a, y :: b => by
    have ih := compareM_foldl a b
    simp only [foldL, List.map_cons, compareM, smallU_idem] at ih ⊢
    rw [ih]
theorem compareM_trans : ∀ a b c : List UInt8, compareM a b ≤ 0 → compareM b c ≤ 0 → compareM a c ≤ 0
  | [], _, [] => by simp [compareM]
  | [], _, _ :: _ => by simp [compareM]
  | _ :: _, [], _ => by simp [compareM]
  | _ :: _, _ :: _, [] => by intro _ h; simp [compareM] at h
  | x :: a, y :: b, z :: c => by
    intro h1 h2
    have c1 := cmpI_cases (smallU x).toNat (smallU y).toNat
    have c2 := cmpI_cases (smallU y).toNat (smallU z).toNat
    have c3 := cmpI_cases (smallU x).toNat (smallU z).toNat
    simp only [compareM] at h1 h2 ⊢
    by_cases e1 : smallU x = smallU y
    · rw [if_pos e1] at h1
      by_cases e2 : smallU y = smallU z
      · rw [if_pos e2] at h2
        rw [if_pos (e1.trans e2)]
        exact compareM_trans a b c h1 h2
      · rw [if_neg e2] at h2
        rw [if_neg (by rw [e1]; exact e2), e1]; exact h2
    · rw [if_neg e1] at h1
      have n1 : (smallU x).toNat ≠ (smallU y).toNat := fun e => e1 (UInt8.toNat_inj.1 e)
      by_cases e2 : smallU y = smallU z
      · rw [if_neg (by rw [← e2]; exact e1), ← e2]; exact h1
      · rw [if_neg e2] at h2
        have n2 : (smallU y).toNat ≠ (smallU z).toNat := fun e => e2 (UInt8.toNat_inj.1 e)
        by_cases e3 : smallU x = smallU z
        · rw [e3] at n1 c1 h1; omega
        · rw [if_neg e3]; omega
theorem sameM_eq (a b : List UInt8) : sameM a b = decide (compareM a b = 0) := by
  unfold sameM; congr 1; apply propext
  constructor
  · exact fun h => h.2
  · intro h
    have := congrArg List.length ((compareM_zero a b).1 h)
    simp only [foldL, List.length_map] at this
    exact ⟨this, h⟩
theorem sameM_fold (a : List UInt8) : sameM a (foldL a) = true := by
  rw [sameM_eq]; apply decide_eq_true
  rw [compareM_zero]; unfold foldL; simp [smallU_idem]

theorem textL_append (a b : List UInt8) : textL (a ++ b) = textL a ++ textL b := by simp [textL]
theorem textL_cons (c : UInt8) (b : List UInt8) : textL (c :: b) = octetW c ++ textL b := by simp [textL]
theorem octetW_ne (c : UInt8) : octetW c ≠ [] := by
  unfold octetW; split
  · simp
  · split <;> simp
theorem textL_nil_iff {l : List UInt8} (h : textL l = []) : l = [] := by
  cases l with
  | nil => rfl
  | cons c l => rw [textL_cons] at h; exact absurd (List.append_eq_nil_iff.1 h).1 (octetW_ne c)

/-- A byte of a text that is known as a list. -/
theorem byte_at (t : ByteArray) (l : List UInt8) (ht : t.data.toList = l) (k : Nat) (hk : k < t.size) (x : UInt8) (h : l[k]? = some x) : t[k] = x := by
  subst ht
  have := Lib.data_getElem? t k hk
  rw [h] at this; exact (Option.some.inj this).symm

/-- What the round at k finds: the head octet's words. -/
theorem safe_split (t : ByteArray) (l pre rest : List UInt8) (ht : t.data.toList = textL l) (hl : l = pre ++ rest) (hk : (textL pre).length < t.size) :
    ∃ c r, rest = c :: r ∧ l = (pre ++ [c]) ++ r ∧ (textL (pre ++ [c])).length = (textL pre).length + (octetW c).length ∧ (textL pre).length + (octetW c).length ≤ t.size ∧
      ∀ j x, (octetW c)[j]? = some x → ∀ h : (textL pre).length + j < t.size, t[(textL pre).length + j] = x := by
  have hsz : t.size = (textL l).length := by rw [← size_data, ht]
  cases rest with
  | nil => simp at hl; subst hl; omega
  | cons c r =>
    have e : textL l = textL pre ++ (octetW c ++ textL r) := by rw [hl, textL_append, textL_cons]
    refine ⟨c, r, rfl, by simp [hl], by rw [textL_snoc]; simp, ?_, ?_⟩
    · rw [hsz, e]; simp
    · intro j x hj h
      refine byte_at t _ ht _ h x ?_
      rw [e, List.getElem?_append_right (by omega), Nat.add_sub_cancel_left]
      have hlt : j < (octetW c).length := (List.getElem?_eq_some_iff.1 hj).1
      rw [List.getElem?_append_left hlt, hj]

theorem esc_first (c : UInt8) : (((48 + c / 100 : UInt8)).toNat : Int) = 48 + (c.toNat : Int) / 100 := by
  have := c.toNat_lt
  rw [UInt8.toNat_add, UInt8.toNat_div]
  simp only [UInt8.reduceToNat]
  omega
theorem u8_eqT {x : UInt8} {n : Nat} (h : x.toNat = n) : ((x.toNat : Int) == (n : Int)) = true := by rw [h]; simp
theorem u8_eqF {x : UInt8} {n : Nat} (h : x.toNat ≠ n) : ((x.toNat : Int) == (n : Int)) = false := by
  simp; omega

theorem readM_octetW (c : UInt8) (r : List UInt8) : readM (octetW c ++ r) = (c, (octetW c).length, 0) := by
  have hc := c.toNat_lt
  by_cases hsp : specialU c = true
  · have s1 : c.toNat = 46 ∨ c.toNat = 92 ∨ c.toNat = 34 ∨ c.toNat = 40 ∨ c.toNat = 41 ∨ c.toNat = 59 ∨ c.toNat = 64 ∨ c.toNat = 36 := of_decide_eq_true hsp
    have hd : digitU c = false := decide_eq_false (by omega)
    rw [octetW_special hsp]
    simp [readM, hd]
  · have hsp0 : specialU c = false := by simpa using hsp
    have s1 : ¬ (c.toNat = 46 ∨ c.toNat = 92 ∨ c.toNat = 34 ∨ c.toNat = 40 ∨ c.toNat = 41 ∨ c.toNat = 59 ∨ c.toNat = 64 ∨ c.toNat = 36) := of_decide_eq_false hsp0
    by_cases hpl : 33 ≤ (c.toNat : Int) ∧ (c.toNat : Int) ≤ 126
    · rw [octetW_plain hsp0 hpl.1 hpl.2]
      have e1 : c ≠ 46 := by intro e; subst e; simp at s1
      have e2 : c ≠ 92 := by intro e; subst e; simp at s1
      simp [readM, e1, e2]
    · rw [octetW_esc hsp0 (by omega)]
      have e1 : (48 + c / 100 : UInt8).toNat = 48 + c.toNat / 100 := by rw [UInt8.toNat_add, UInt8.toNat_div]; simp only [UInt8.reduceToNat]; omega
      have e2 : (48 + c / 10 % 10 : UInt8).toNat = 48 + c.toNat / 10 % 10 := by rw [UInt8.toNat_add, UInt8.toNat_mod, UInt8.toNat_div]; simp only [UInt8.reduceToNat]; omega
      have e3 : (48 + c % 10 : UInt8).toNat = 48 + c.toNat % 10 := by rw [UInt8.toNat_add, UInt8.toNat_mod]; simp only [UInt8.reduceToNat]; omega
      have d1 : digitU (48 + c / 100) = true := decide_eq_true (by omega)
      have d2 : digitU (48 + c / 10 % 10) = true := decide_eq_true (by omega)
      have d3 : digitU (48 + c % 10) = true := decide_eq_true (by omega)
      have hn : (48 + c.toNat / 100 - 48) * 100 + (48 + c.toNat / 10 % 10 - 48) * 10 + (48 + c.toNat % 10 - 48) = c.toNat := by omega
      simp only [octetEsc, List.cons_append, List.nil_append, readM, d1, d2, d3, e1, e2, e3, hn]
      rw [if_neg (by decide), if_neg (by decide), if_neg (by decide), if_pos ⟨trivial, trivial⟩, if_neg (by omega)]
      simp

theorem scan_text : ∀ l : List UInt8, scan (textL l) = (l, 0)
  | [] => rfl
  | c :: l => by
    have ih := scan_text l
    have hr := readM_octetW c (textL l)
    rw [textL_cons, scan_ok (by simp [octetW_ne]) (by rw [hr]), hr]
    simp only [List.drop_left', ih, join, if_true]
    rfl
theorem parse_text (l : List UInt8) : parseM (textL l) = (if checkLabelM l = 0 then (l, 0) else ([], checkLabelM l)) := by
  unfold parseM; rw [scan_text]; simp

theorem str_of (l : List UInt8) : ∃ s : ByteArray, s.data.toList = l ∧ s.size = l.length ∧ strV l = .string s := ⟨⟨l.toArray⟩, by simp, by show l.toArray.size = _; simp, rfl⟩
theorem mk_size (l : List UInt8) : (⟨l.toArray⟩ : ByteArray).size = l.length := by show l.toArray.size = _; simp
theorem check_ok {l : List UInt8} (h1 : l.length ≠ 0) (h2 : l.length ≤ 63) : checkLabelM l = 0 := by
  unfold checkLabelM; rw [if_neg (by intro e; simp [e] at h1), if_neg (by omega)]

end Go.Proofs.YtbnkecmhmcligaaDoor

/-
  Names as lists of labels: what the functions of package name answer, as plain functions on lists; facts on them.
-/
namespace Go.Proofs.YtbnkecmhmcligaaDoor
set_option linter.unusedVariables false
set_option linter.unusedSimpArgs false
set_option maxRecDepth 20000
open Go.RowKit Go.Shelf

abbrev Nm := List (List UInt8)
def lenN (n : Nm) : Nat := 1 + (n.map fun x => 1 + x.length).sum
def checkL : Nm → Int
  | [] => 0
  | x :: r => if checkLabelM x = 0 then checkL r else checkLabelM x
def checkN (n : Nm) : Int := if checkL n = 0 then (if 255 < lenN n then 3 else 0) else checkL n
def textN (n : Nm) : List UInt8 := if n = [] then [46] else n.flatMap fun x => textL x ++ [46]
def foldN (n : Nm) : Nm := n.map foldL
def sameN (a b : Nm) : Bool := decide (foldN a = foldN b)
def underN (n z : Nm) : Bool := decide (z.length ≤ n.length) && sameN (n.drop (n.length - z.length)) z
def cmpR : Nm → Nm → Int
  | [], [] => 0
  | [], _ :: _ => -1
  | _ :: _, [] => 1
  | x :: r, y :: t => if compareM x y = 0 then cmpR r t else compareM x y
def compareN (a b : Nm) : Int := cmpR a.reverse b.reverse
def sharedR : Nm → Nm → Nat
  | x :: r, y :: t => if compareM x y = 0 then sharedR r t + 1 else 0
  | _, _ => 0
def commonN (a b : Nm) : Nm := a.drop (a.length - sharedR a.reverse b.reverse)
def parentN (n : Nm) : Nm := n.drop 1
def swapN (n f t : Nm) : Nm × Int :=
  if underN n f then (if checkN (n.take (n.length - f.length) ++ t) = 0 then (n.take (n.length - f.length) ++ t, 0) else ([], 7)) else ([], 12)
def wildN (n : Nm) : Bool := decide (n.head? = some [42])

theorem checkLabelM_cases (l : List UInt8) : checkLabelM l = 0 ∨ checkLabelM l = 8 ∨ checkLabelM l = 3 := by
  unfold checkLabelM; split
  · exact .inr (.inl rfl)
  · split
    · exact .inr (.inr rfl)
    · exact .inl rfl
theorem lenN_cons (x : List UInt8) (n : Nm) : lenN (x :: n) = lenN n + 1 + x.length := by simp [lenN]; omega
theorem lenN_snoc (n : Nm) (x : List UInt8) : lenN (n ++ [x]) = lenN n + 1 + x.length := by simp [lenN]; omega
theorem lenN_append (a b : Nm) : lenN (a ++ b) + 1 = lenN a + lenN b := by simp [lenN]; omega
theorem checkL_append (a b : Nm) : checkL (a ++ b) = if checkL a = 0 then checkL b else checkL a := by
  induction a with
  | nil => simp [checkL]
  | cons x a ih =>
    simp only [List.cons_append, checkL]
    split
    · exact ih
    · rfl
theorem checkL_snoc (a : Nm) (x : List UInt8) : checkL (a ++ [x]) = if checkL a = 0 then checkLabelM x else checkL a := by
  rw [checkL_append]; simp only [checkL]
  split
  · split
    · rename_i h; exact h.symm
    · rfl
  · rfl
/-- The first label that may not be tells. -/
theorem checkL_stop {a p : Nm} (h : p <+: a) (hp : checkL p ≠ 0) : checkL a = checkL p := by
  obtain ⟨t, rfl⟩ := h; rw [checkL_append, if_neg hp]
theorem checkN_of_stop {a p : Nm} (h : p <+: a) (hp : checkL p ≠ 0) : checkN a = checkL p := by
  unfold checkN; rw [checkL_stop h hp, if_neg hp]

theorem foldN_len (n : Nm) : (foldN n).length = n.length := by simp [foldN]
theorem sameN_iff (a b : Nm) : sameN a b = true ↔ foldN a = foldN b := by simp [sameN]
theorem sameM_iff (a b : List UInt8) : sameM a b = true ↔ foldL a = foldL b := by
  rw [sameM_eq, decide_eq_true_iff]; exact compareM_zero a b
theorem sameN_len {a b : Nm} (h : a.length ≠ b.length) : sameN a b = false := by
  unfold sameN; apply decide_eq_false; intro e; have := congrArg List.length e; simp [foldN] at this; exact h this
theorem sameN_of_get {a b : Nm} (h : a.length = b.length) (hs : ∀ j (h1 : j < a.length) (h2 : j < b.length), sameM a[j] b[j] = true) : sameN a b = true := by
  rw [sameN_iff]
  apply List.ext_getElem (by simp [foldN, h])
  intro j h1 h2
  simp only [foldN, List.getElem_map]
  exact (sameM_iff _ _).1 (hs j (by simpa [foldN] using h1) (by simpa [foldN] using h2))
theorem sameN_not_get {a b : Nm} (j : Nat) (h1 : j < a.length) (h2 : j < b.length) (hs : sameM a[j] b[j] = false) : sameN a b = false := by
  cases h : sameN a b with
  | false => rfl
  | true =>
    rw [sameN_iff] at h
    have : foldL a[j] = foldL b[j] := by
      have h3 : (foldN a)[j]'(by simp [foldN, h1]) = (foldN b)[j]'(by simp [foldN, h2]) := by simp only [h]
      simpa [foldN] using h3
    rw [(sameM_iff _ _).2 this] at hs; cases hs
theorem sameN_refl (a : Nm) : sameN a a = true := (sameN_iff _ _).2 rfl
theorem sameN_symm (a b : Nm) : sameN a b = sameN b a := by unfold sameN; exact decide_eq_decide.2 ⟨Eq.symm, Eq.symm⟩
theorem sameN_trans {a b c : Nm} (h1 : sameN a b = true) (h2 : sameN b c = true) : sameN a c = true := (sameN_iff _ _).2 (((sameN_iff _ _).1 h1).trans ((sameN_iff _ _).1 h2))
theorem foldL_idem (l : List UInt8) : foldL (foldL l) = foldL l := by
  unfold foldL; rw [List.map_map]; apply List.map_congr_left; intro c _; exact smallU_idem c
theorem sameN_fold (a : Nm) : sameN a (foldN a) = true := by
  rw [sameN_iff]; unfold foldN; rw [List.map_map]; apply List.map_congr_left; intro l _; exact (foldL_idem l).symm

/-! ### the order -/
theorem cmpR_range : ∀ a b : Nm, cmpR a b = -1 ∨ cmpR a b = 0 ∨ cmpR a b = 1
  | [], [] => .inr (.inl rfl)
  | [], _ :: _ => .inl rfl
  | _ :: _, [] => .inr (.inr rfl)
  | x :: r, y :: t => by
    simp only [cmpR]; split
    · exact cmpR_range r t
    · exact compareM_range x y
theorem cmpR_swap : ∀ a b : Nm, cmpR b a = - cmpR a b
  | [], [] => rfl
  | [], _ :: _ => rfl
  | _ :: _, [] => rfl
  | x :: r, y :: t => by
    simp only [cmpR]
    have h := compareM_swap x y
    by_cases e : compareM x y = 0
    · rw [if_pos e, if_pos (by omega)]; exact cmpR_swap r t
    · rw [if_neg e, if_neg (by omega)]; exact h
theorem cmpR_zero : ∀ a b : Nm, cmpR a b = 0 ↔ foldN a = foldN b
  | [], [] => by simp [cmpR, foldN]
  | [], _ :: _ => by simp [cmpR, foldN]
  | _ :: _, [] => by simp [cmpR, foldN]
  | x :: r, y :: t => by
    have ih := cmpR_zero r t
    have h := compareM_zero x y
    simp only [cmpR, foldN, List.map_cons, List.cons.injEq] at ih ⊢
    by_cases e : compareM x y = 0
    · rw [if_pos e, ih]; exact ⟨fun q => ⟨h.1 e, q⟩, fun q => q.2⟩
    · rw [if_neg e]; exact ⟨fun q => absurd q e, fun q => absurd (h.2 q.1) e⟩
theorem compareM_zero_left {x y z : List UInt8} (h : compareM x y = 0) : compareM y z = compareM x z := by
  have e := (compareM_zero x y).1 h
  rw [← compareM_foldl x z, ← compareM_foldl y z, e]
theorem cmpR_trans : ∀ a b c : Nm, cmpR a b ≤ 0 → cmpR b c ≤ 0 → cmpR a c ≤ 0
  | [], _, [] => by intro _ _; simp [cmpR]
  | [], _, _ :: _ => by intro _ _; simp [cmpR]
  | _ :: _, [], _ => by intro h _; simp [cmpR] at h
  | _ :: _, _ :: _, [] => by intro _ h; simp [cmpR] at h
  | x :: r, y :: t, z :: u => by
    have ih := cmpR_trans r t u
    simp only [cmpR]
    intro h1 h2
    by_cases e1 : compareM x y = 0
    · rw [if_pos e1] at h1
      rw [← compareM_zero_left (z := z) e1]
      by_cases e2 : compareM y z = 0
      · rw [if_pos e2] at h2 ⊢; exact ih h1 h2
      · rw [if_neg e2] at h2 ⊢; exact h2
    · rw [if_neg e1] at h1
      by_cases e2 : compareM y z = 0
      · have e3 : compareM x z = compareM x y := by
          have s1 := compareM_swap x z; have s2 := compareM_swap x y
          have := compareM_zero_left (x := y) (y := z) (z := x) e2
          omega
        rw [e3, if_neg e1]; exact h1
      · rw [if_neg e2] at h2
        have h3 := compareM_trans x y z h1 h2
        by_cases e3 : compareM x z = 0
        · exfalso
          have s1 := compareM_swap x y
          have := compareM_zero_left (x := x) (y := z) (z := y) e3
          have s2 := compareM_swap y z
          have r1 := compareM_range x y; have r2 := compareM_range y z
          omega
        · rw [if_neg e3]; exact h3
theorem foldN_reverse (a : Nm) : foldN a.reverse = (foldN a).reverse := by simp [foldN]
theorem compareN_zero (a b : Nm) : compareN a b = 0 ↔ sameN a b = true := by
  unfold compareN; rw [cmpR_zero, foldN_reverse, foldN_reverse, sameN_iff]
  exact ⟨fun h => List.reverse_inj.1 h, fun h => by rw [h]⟩
theorem compareN_swap (a b : Nm) : compareN b a = - compareN a b := cmpR_swap _ _
theorem compareN_range (a b : Nm) : compareN a b = -1 ∨ compareN a b = 0 ∨ compareN a b = 1 := cmpR_range _ _
theorem compareN_trans (a b c : Nm) (h1 : compareN a b ≤ 0) (h2 : compareN b c ≤ 0) : compareN a c ≤ 0 := cmpR_trans _ _ _ h1 h2

/-! ### below -/
theorem underN_iff (n z : Nm) : underN n z = true ↔ ∃ p, foldN n = p ++ foldN z := by
  unfold underN
  simp only [Bool.and_eq_true, decide_eq_true_eq, sameN_iff]
  constructor
  · rintro ⟨h, e⟩
    refine ⟨(foldN n).take (n.length - z.length), ?_⟩
    rw [← e]; simp [foldN, List.map_drop]
  · rintro ⟨p, e⟩
    have hl : n.length = p.length + z.length := by have := congrArg List.length e; simpa [foldN] using this
    refine ⟨by omega, ?_⟩
    have : foldN (n.drop (n.length - z.length)) = (foldN n).drop (n.length - z.length) := by simp [foldN, List.map_drop]
    rw [this, e, show n.length - z.length = p.length by omega, List.drop_left]
theorem underN_trans {a b c : Nm} (h1 : underN a b = true) (h2 : underN b c = true) : underN a c = true := by
  rw [underN_iff] at *
  obtain ⟨p, e1⟩ := h1; obtain ⟨q, e2⟩ := h2
  exact ⟨p ++ q, by rw [e1, e2, List.append_assoc]⟩
theorem underN_nil (a : Nm) : underN a [] = true := (underN_iff _ _).2 ⟨foldN a, by simp [foldN]⟩
theorem cmpR_ahead : ∀ (a b p : Nm), foldN a = foldN b ++ p → 0 ≤ cmpR a b
  | [], [], _ => by intro _; simp [cmpR]
  | [], _ :: _, _ => by intro h; simp [foldN] at h
  | _ :: _, [], _ => by intro _; simp [cmpR]
  | x :: r, y :: t, p => by
    intro h
    simp only [foldN, List.map_cons, List.cons_append, List.cons.injEq] at h
    simp only [cmpR]
    rw [if_pos ((compareM_zero x y).2 h.1)]
    exact cmpR_ahead r t p h.2
theorem compareN_under {a b : Nm} (h : underN a b = true) : 0 ≤ compareN a b := by
  obtain ⟨p, e⟩ := (underN_iff _ _).1 h
  unfold compareN
  refine cmpR_ahead _ _ p.reverse ?_
  rw [foldN_reverse, e, foldN_reverse, List.reverse_append]
theorem underN_len {a b : Nm} (h : underN a b = true) : b.length ≤ a.length := by
  obtain ⟨p, e⟩ := (underN_iff _ _).1 h
  have := congrArg List.length e; simp [foldN] at this; omega

end Go.Proofs.YtbnkecmhmcligaaDoor

