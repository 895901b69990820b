/-
  Plain facts on labels: the order, letters great and small, words and back.
-/
import Derived.Test.YtoohhoillblaoaaLabF
import Derived.Test.YtoohhoillblaoaaOwn
import Derived.Test.YtoohhoillblaoaaRefA
namespace Go.Proofs.Ytoohhoillblaoaa
open Go.RowKit Go.Shelf

theorem smallU_idem (c : UInt8) : smallU (smallU c) = smallU c := by
  unfold smallU
  by_cases h : 65 ≤ c.toNat ∧ c.toNat ≤ 90
  · rw [if_pos h, if_neg]
    rw [UInt8.toNat_add]; simp; omega
  · rw [if_neg h, if_neg h]
theorem cmpI_cases (a b : Int) : (cmpI a b = -1 ∧ a < b) ∨ (cmpI a b = 0 ∧ a = b) ∨ (cmpI a b = 1 ∧ b < a) := by
  unfold cmpI
  by_cases h : a < b
  · left; rw [if_pos h]; exact ⟨rfl, h⟩
  · by_cases h2 : b < a
    · right; right; rw [if_neg h, if_pos h2]; exact ⟨rfl, h2⟩
    · right; left; rw [if_neg h, if_neg h2]; exact ⟨rfl, by omega⟩
theorem compareM_range : ∀ a b : List UInt8, compareM a b = -1 ∨ compareM a b = 0 ∨ compareM a b = 1
  | [], [] => by simp [compareM]
  | [], _ :: _ => by simp [compareM]
  | _ :: _, [] => by simp [compareM]
  | x :: a, y :: b => by
    by_cases h : smallU x = smallU y
    · simp only [compareM, h, if_true]; exact compareM_range a b
    · simp only [compareM, h, if_false]; have := cmpI_cases (smallU x).toNat (smallU y).toNat; omega
theorem compareM_swap : ∀ a b : List UInt8, compareM b a = - compareM a b
  | [], [] => by simp [compareM]
  | [], _ :: _ => by simp [compareM]
  | _ :: _, [] => by simp [compareM]
  | x :: a, y :: b => by
    by_cases h : smallU x = smallU y
    · simp only [compareM, h, if_true]; exact compareM_swap a b
    · simp only [compareM, h, if_false, Ne.symm h]
      have h1 := cmpI_cases (smallU x).toNat (smallU y).toNat
      have h2 := cmpI_cases (smallU y).toNat (smallU x).toNat
      omega
theorem compareM_zero : ∀ a b : List UInt8, compareM a b = 0 ↔ foldL a = foldL b
  | [], [] => by simp [compareM, foldL]
  | [], _ :: _ => by simp [compareM, foldL]
  | _ :: _, [] => by simp [compareM, foldL]
  | x :: a, y :: b => by
    have ih := compareM_zero a b
    by_cases h : smallU x = smallU y
    · simp only [compareM, h, if_true, ih, foldL, List.map_cons, List.cons.injEq, true_and]
    · have hn : (smallU x).toNat ≠ (smallU y).toNat := fun e => h (UInt8.toNat_inj.1 e)
      have h1 := cmpI_cases (smallU x).toNat (smallU y).toNat
      simp only [compareM, h, if_false, foldL, List.map_cons, List.cons.injEq, false_and, iff_false]
      omega
theorem compareM_foldl : ∀ a b : List UInt8, compareM (foldL a) b = compareM a b
  | [], [] => rfl
  | [], _ :: _ => rfl
  | _ :: _, [] => rfl
  | x :: a, y :: b => by
    have ih := compareM_foldl a b
    simp only [foldL, List.map_cons, compareM, smallU_idem] at ih ⊢
    rw [ih]
theorem compareM_trans : ∀ a b c : List UInt8, compareM a b ≤ 0 → compareM b c ≤ 0 → compareM a c ≤ 0
  | [], _, [] => by simp [compareM]
  | [], _, _ :: _ => by simp [compareM]
  | _ :: _, [], _ => by simp [compareM]
  | _ :: _, _ :: _, [] => by intro _ h; simp [compareM] at h
  | x :: a, y :: b, z :: c => by
    intro h1 h2
    have c1 := cmpI_cases (smallU x).toNat (smallU y).toNat
    have c2 := cmpI_cases (smallU y).toNat (smallU z).toNat
    have c3 := cmpI_cases (smallU x).toNat (smallU z).toNat
    simp only [compareM] at h1 h2 ⊢
    by_cases e1 : smallU x = smallU y
    · rw [if_pos e1] at h1
      by_cases e2 : smallU y = smallU z
      · rw [if_pos e2] at h2
        rw [if_pos (e1.trans e2)]
        exact compareM_trans a b c h1 h2
      · rw [if_neg e2] at h2
        rw [if_neg (by rw [e1]; exact e2), e1]; exact h2
    · rw [if_neg e1] at h1
      have n1 : (smallU x).toNat ≠ (smallU y).toNat := fun e => e1 (UInt8.toNat_inj.1 e)
      by_cases e2 : smallU y = smallU z
      · rw [if_neg (by rw [← e2]; exact e1), ← e2]; exact h1
      · rw [if_neg e2] at h2
        have n2 : (smallU y).toNat ≠ (smallU z).toNat := fun e => e2 (UInt8.toNat_inj.1 e)
        by_cases e3 : smallU x = smallU z
        · rw [e3] at n1 c1 h1; omega
        · rw [if_neg e3]; omega
theorem sameM_eq (a b : List UInt8) : sameM a b = decide (compareM a b = 0) := by
  unfold sameM; congr 1; apply propext
  constructor
  · exact fun h => h.2
  · intro h
    have := congrArg List.length ((compareM_zero a b).1 h)
    simp only [foldL, List.length_map] at this
    exact ⟨this, h⟩
theorem sameM_fold (a : List UInt8) : sameM a (foldL a) = true := by
  rw [sameM_eq]; apply decide_eq_true
  rw [compareM_zero]; unfold foldL; simp [smallU_idem]

theorem textL_append (a b : List UInt8) : textL (a ++ b) = textL a ++ textL b := by simp [textL]
theorem textL_cons (c : UInt8) (b : List UInt8) : textL (c :: b) = octetW c ++ textL b := by simp [textL]
theorem octetW_ne (c : UInt8) : octetW c ≠ [] := by
  unfold octetW; split
  · simp
  · split <;> simp
theorem textL_nil_iff {l : List UInt8} (h : textL l = []) : l = [] := by
  cases l with
  | nil => rfl
  | cons c l => rw [textL_cons] at h; exact absurd (List.append_eq_nil_iff.1 h).1 (octetW_ne c)

/-- A byte of a text that is known as a list. -/
theorem byte_at (t : ByteArray) (l : List UInt8) (ht : t.data.toList = l) (k : Nat) (hk : k < t.size) (x : UInt8) (h : l[k]? = some x) : t[k] = x := by
  subst ht
  have := Lib.data_getElem? t k hk
  rw [h] at this; exact (Option.some.inj this).symm

/-- What the round at k finds: the head octet's words. -/
theorem safe_split (t : ByteArray) (l pre rest : List UInt8) (ht : t.data.toList = textL l) (hl : l = pre ++ rest) (hk : (textL pre).length < t.size) :
    ∃ c r, rest = c :: r ∧ l = (pre ++ [c]) ++ r ∧ (textL (pre ++ [c])).length = (textL pre).length + (octetW c).length ∧ (textL pre).length + (octetW c).length ≤ t.size ∧
      ∀ j x, (octetW c)[j]? = some x → ∀ h : (textL pre).length + j < t.size, t[(textL pre).length + j] = x := by
  have hsz : t.size = (textL l).length := by rw [← size_data, ht]
  cases rest with
  | nil => simp at hl; subst hl; omega
  | cons c r =>
    have e : textL l = textL pre ++ (octetW c ++ textL r) := by rw [hl, textL_append, textL_cons]
    refine ⟨c, r, rfl, by simp [hl], by rw [textL_snoc]; simp, ?_, ?_⟩
    · rw [hsz, e]; simp
    · intro j x hj h
      refine byte_at t _ ht _ h x ?_
      rw [e, List.getElem?_append_right (by omega), Nat.add_sub_cancel_left]
      have hlt : j < (octetW c).length := (List.getElem?_eq_some_iff.1 hj).1
      rw [List.getElem?_append_left hlt, hj]

theorem esc_first (c : UInt8) : (((48 + c / 100 : UInt8)).toNat : Int) = 48 + (c.toNat : Int) / 100 := by
  have := c.toNat_lt
  rw [UInt8.toNat_add, UInt8.toNat_div]
  simp only [UInt8.reduceToNat]
  omega
theorem u8_eqT {x : UInt8} {n : Nat} (h : x.toNat = n) : ((x.toNat : Int) == (n : Int)) = true := by rw [h]; simp
theorem u8_eqF {x : UInt8} {n : Nat} (h : x.toNat ≠ n) : ((x.toNat : Int) == (n : Int)) = false := by
  simp; omega

theorem readM_octetW (c : UInt8) (r : List UInt8) : readM (octetW c ++ r) = (c, (octetW c).length, 0) := by
  have hc := c.toNat_lt
  by_cases hsp : specialU c = true
  · have s1 : c.toNat = 46 ∨ c.toNat = 92 ∨ c.toNat = 34 ∨ c.toNat = 40 ∨ c.toNat = 41 ∨ c.toNat = 59 ∨ c.toNat = 64 ∨ c.toNat = 36 := of_decide_eq_true hsp
    have hd : digitU c = false := decide_eq_false (by omega)
    rw [octetW_special hsp]
    simp [readM, hd]
  · have hsp0 : specialU c = false := by simpa using hsp
    have s1 : ¬ (c.toNat = 46 ∨ c.toNat = 92 ∨ c.toNat = 34 ∨ c.toNat = 40 ∨ c.toNat = 41 ∨ c.toNat = 59 ∨ c.toNat = 64 ∨ c.toNat = 36) := of_decide_eq_false hsp0
    by_cases hpl : 33 ≤ (c.toNat : Int) ∧ (c.toNat : Int) ≤ 126
    · rw [octetW_plain hsp0 hpl.1 hpl.2]
      have e1 : c ≠ 46 := by intro e; subst e; simp at s1
      have e2 : c ≠ 92 := by intro e; subst e; simp at s1
      simp [readM, e1, e2]
    · rw [octetW_esc hsp0 (by omega)]
      have e1 : (48 + c / 100 : UInt8).toNat = 48 + c.toNat / 100 := by rw [UInt8.toNat_add, UInt8.toNat_div]; simp only [UInt8.reduceToNat]; omega
      have e2 : (48 + c / 10 % 10 : UInt8).toNat = 48 + c.toNat / 10 % 10 := by rw [UInt8.toNat_add, UInt8.toNat_mod, UInt8.toNat_div]; simp only [UInt8.reduceToNat]; omega
      have e3 : (48 + c % 10 : UInt8).toNat = 48 + c.toNat % 10 := by rw [UInt8.toNat_add, UInt8.toNat_mod]; simp only [UInt8.reduceToNat]; omega
      have d1 : digitU (48 + c / 100) = true := decide_eq_true (by omega)
      have d2 : digitU (48 + c / 10 % 10) = true := decide_eq_true (by omega)
      have d3 : digitU (48 + c % 10) = true := decide_eq_true (by omega)
      have hn : (48 + c.toNat / 100 - 48) * 100 + (48 + c.toNat / 10 % 10 - 48) * 10 + (48 + c.toNat % 10 - 48) = c.toNat := by omega
      simp only [octetEsc, List.cons_append, List.nil_append, readM, d1, d2, d3, e1, e2, e3, hn]
      rw [if_neg (by decide), if_neg (by decide), if_neg (by decide), if_pos ⟨trivial, trivial⟩, if_neg (by omega)]
      simp

theorem scan_text : ∀ l : List UInt8, scan (textL l) = (l, 0)
  | [] => rfl
  | c :: l => by
    have ih := scan_text l
    have hr := readM_octetW c (textL l)
    rw [textL_cons, scan_ok (by simp [octetW_ne]) (by rw [hr]), hr]
    simp only [List.drop_left', ih, join, if_true]
    rfl
theorem parse_text (l : List UInt8) : parseM (textL l) = (if checkLabelM l = 0 then (l, 0) else ([], checkLabelM l)) := by
  unfold parseM; rw [scan_text]; simp

theorem str_of (l : List UInt8) : ∃ s : ByteArray, s.data.toList = l ∧ s.size = l.length ∧ strV l = .string s := ⟨⟨l.toArray⟩, by simp, by show l.toArray.size = _; simp, rfl⟩
theorem mk_size (l : List UInt8) : (⟨l.toArray⟩ : ByteArray).size = l.length := by show l.toArray.size = _; simp
theorem check_ok {l : List UInt8} (h1 : l.length ≠ 0) (h2 : l.length ≤ 63) : checkLabelM l = 0 := by
  unfold checkLabelM; rw [if_neg (by intro e; simp [e] at h1), if_neg (by omega)]

end Go.Proofs.Ytoohhoillblaoaa
