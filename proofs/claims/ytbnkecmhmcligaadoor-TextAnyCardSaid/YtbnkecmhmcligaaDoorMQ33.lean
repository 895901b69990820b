/-
  Plain facts for types and numbers: digits, decimals read and written, letters great and small, the names of types.
-/
import Derived.Test.YtbnkecmhmcligaaDoorMQ14
import Derived.Test.YtbnkecmhmcligaaDoorMQ02
import Derived.Lib.ItoaNum
import Derived.Lib.ItoaMem
namespace Go.Proofs.YtbnkecmhmcligaaDoor
set_option linter.unusedVariables false
set_option linter.unusedSimpArgs false
set_option maxRecDepth 20000
open Go.RowKit Go.Shelf


/-! ### decimals -/
def valL (l : List UInt8) : Nat := l.foldl (fun n c => 10 * n + (c.toNat - 48)) 0
theorem valL_snoc (l : List UInt8) (c : UInt8) : valL (l ++ [c]) = 10 * valL l + (c.toNat - 48) := by simp [valL]
theorem foldl_ge (l : List UInt8) : ∀ n, n ≤ l.foldl (fun n c => 10 * n + (c.toNat - 48)) n := by
  induction l with
  | nil => intro n; simp
  | cons c l ih => intro n; simp only [List.foldl_cons]; exact Nat.le_trans (by omega) (ih _)
theorem valL_prefix {p l : List UInt8} (h : p <+: l) : valL p ≤ valL l := by
  obtain ⟨r, rfl⟩ := h; unfold valL; rw [List.foldl_append]; exact foldl_ge _ _
def allDigits (l : List UInt8) : Bool := l.all digitU
def formN (l : List UInt8) : Bool := (!l.isEmpty && allDigits l) && !(decide (1 < l.length) && decide (l.head? = some 48))
/-- A decimal without leading noughts, at most so much. -/
def numM (l : List UInt8) (most : Nat) : Nat × Int := if formN l then (if valL l ≤ most then (valL l, 0) else (0, 7)) else (0, 2)

theorem digitU_iff (c : UInt8) : digitU c = true ↔ 48 ≤ c.toNat ∧ c.toNat ≤ 57 := by unfold digitU; simp
theorem digitU_of (d : Nat) (h : d < 10) : digitU (UInt8.ofNat (48 + d)) = true := by
  rw [digitU_iff]; have : (UInt8.ofNat (48 + d)).toNat = 48 + d := by simp; omega
  omega
theorem ofNat_val (d : Nat) (h : d < 10) : (UInt8.ofNat (48 + d)).toNat - 48 = d := by
  have : (UInt8.ofNat (48 + d)).toNat = 48 + d := by simp; omega
  omega
theorem dec_facts : ∀ (u : Nat), allDigits (Lib.decDigits u) = true ∧ valL (Lib.decDigits u) = u ∧ Lib.decDigits u ≠ [] ∧ (1 < (Lib.decDigits u).length → (Lib.decDigits u).head? ≠ some 48) ∧ (0 < u → (Lib.decDigits u).head? ≠ some 48) := by
  intro u
  induction u using Nat.strongRecOn with
  | ind u ih =>
    rw [Lib.decDigits]
    by_cases h : u < 10
    · rw [dif_pos h]
      refine ⟨by simp only [allDigits, List.all_cons, List.all_nil, Bool.and_true]; exact digitU_of u h, by simp only [valL, List.foldl_cons, List.foldl_nil]; rw [ofNat_val u h]; omega, by simp, by simp, ?_⟩
      intro h0 e
      simp only [List.head?_cons, Option.some.injEq] at e
      have := congrArg UInt8.toNat e
      simp at this; omega
    · rw [dif_neg h]
      obtain ⟨h1, h2, h3, h4, h5⟩ := ih (u / 10) (by omega)
      have hm : u % 10 < 10 := Nat.mod_lt _ (by omega)
      have hh : (Lib.decDigits (u / 10) ++ [UInt8.ofNat (48 + u % 10)]).head? = (Lib.decDigits (u / 10)).head? := by
        cases hd : Lib.decDigits (u / 10) with
        | nil => exact absurd hd h3
        | cons a b => rfl
      refine ⟨?_, ?_, by simp, fun _ => by rw [hh]; exact h5 (by omega), fun _ => by rw [hh]; exact h5 (by omega)⟩
      · unfold allDigits at *; rw [List.all_append, h1]; simp only [List.all_cons, List.all_nil, Bool.and_true, Bool.true_and]; exact digitU_of _ hm
      · rw [valL_snoc, h2, ofNat_val _ hm]; omega
theorem numM_dec (u most : Nat) (h : u ≤ most) : numM (Lib.decDigits u) most = (u, 0) := by
  obtain ⟨h1, h2, h3, h4, _⟩ := dec_facts u
  have hf : formN (Lib.decDigits u) = true := by
    unfold formN
    rw [h1]
    have : (Lib.decDigits u).isEmpty = false := by cases hd : Lib.decDigits u with
      | nil => exact absurd hd h3
      | cons a b => rfl
    rw [this]
    by_cases hl : 1 < (Lib.decDigits u).length
    · have := h4 hl; simp [this]
    · simp [hl]
  unfold numM; rw [hf, if_pos rfl, h2, if_pos h]

/-! ### letters -/
def greatU (c : UInt8) : UInt8 := if 97 ≤ c.toNat ∧ c.toNat ≤ 122 then c - 32 else c
def greatL (l : List UInt8) : List UInt8 := l.map greatU
theorem greatU_hi (c : UInt8) (h1 : 97 ≤ (c.toNat : Int)) (h2 : (c.toNat : Int) ≤ 122) : (c.toNat : Int) - 97 + 65 = ((greatU c).toNat : Int) := by
  unfold greatU; rw [if_pos ⟨by omega, by omega⟩, UInt8.toNat_sub]; simp; omega
theorem greatU_nat (c : UInt8) : (greatU c).toNat = if 97 ≤ c.toNat ∧ c.toNat ≤ 122 then c.toNat - 32 else c.toNat := by
  unfold greatU
  by_cases h : 97 ≤ c.toNat ∧ c.toNat ≤ 122
  · rw [if_pos h, if_pos h, UInt8.toNat_sub]; simp; omega
  · rw [if_neg h, if_neg h]
theorem smallU_nat (c : UInt8) : (smallU c).toNat = if 65 ≤ c.toNat ∧ c.toNat ≤ 90 then c.toNat + 32 else c.toNat := by
  unfold smallU
  by_cases h : 65 ≤ c.toNat ∧ c.toNat ≤ 90
  · rw [if_pos h, if_pos h, UInt8.toNat_add]; simp; omega
  · rw [if_neg h, if_neg h]
theorem great_small (c : UInt8) : greatU (smallU c) = greatU c := by
  apply UInt8.toNat.inj; rw [greatU_nat, greatU_nat, smallU_nat]; repeat' split
  all_goals omega
theorem small_great (c : UInt8) : smallU (greatU c) = smallU c := by
  apply UInt8.toNat.inj; rw [smallU_nat, smallU_nat, greatU_nat]; repeat' split
  all_goals omega
theorem greatL_fold (l : List UInt8) : greatL (foldL l) = greatL l := by unfold greatL foldL; rw [List.map_map]; exact List.map_congr_left fun c _ => great_small c
theorem foldL_great (l : List UInt8) : foldL (greatL l) = foldL l := by unfold greatL foldL; rw [List.map_map]; exact List.map_congr_left fun c _ => small_great c
theorem digit_great (c : UInt8) : digitU (greatU c) = digitU c ∧ (digitU c = true → greatU c = c) := by
  refine ⟨?_, ?_⟩
  · rw [Bool.eq_iff_iff, digitU_iff, digitU_iff, greatU_nat]; split <;> omega
  · intro h; rw [digitU_iff] at h; unfold greatU; rw [if_neg (by omega)]
theorem digit_small (c : UInt8) : digitU (smallU c) = digitU c ∧ (digitU c = true → smallU c = c) := by
  refine ⟨?_, ?_⟩
  · rw [Bool.eq_iff_iff, digitU_iff, digitU_iff, smallU_nat]; split <;> omega
  · intro h; rw [digitU_iff] at h; unfold smallU; rw [if_neg (by omega)]
theorem numM_map (f : UInt8 → UInt8) (hf : ∀ c, digitU (f c) = digitU c ∧ (digitU c = true → f c = c)) (l : List UInt8) (most : Nat) : numM (l.map f) most = numM l most := by
  by_cases h : allDigits l = true
  · have : l.map f = l := by
      conv => rhs; rw [← List.map_id l]
      apply List.map_congr_left
      intro c hc; exact (hf c).2 (List.all_eq_true.1 h c hc)
    rw [this]
  · have h1 : formN l = false := by unfold formN; simp only [Bool.not_eq_true] at h; rw [h]; simp
    have h2 : allDigits (l.map f) = false := by
      simp only [Bool.not_eq_true] at h
      rw [← h]; unfold allDigits; rw [List.all_map]; congr 1; funext c; exact (hf c).1
    have h3 : formN (l.map f) = false := by unfold formN; rw [h2]; simp
    unfold numM; rw [h1, h3]; rfl

/-! ### the names of types -/
def typeT (j : Nat) : Int := [1, 2, 5, 6, 12, 15, 16, 28, 39].getD j 0
def typeS (j : Nat) : List UInt8 := ([[65], [78, 83], [67, 78, 65, 77, 69], [83, 79, 65], [80, 84, 82], [77, 88], [84, 88, 84], [65, 65, 65, 65], [68, 78, 65, 77, 69]] : List (List UInt8)).getD j []
/-- The first row with that number; with that name. -/
def rowOfT (t : Int) : Option Nat := (List.range 9).find? fun j => decide (typeT j = t)
def rowOfS (s : List UInt8) : Option Nat := (List.range 9).find? fun j => decide (typeS j = s)
def typeNameM (t : Int) : List UInt8 := match rowOfT t with | some j => typeS j | none => []
def knownM (t : Int) : Bool := (rowOfT t).isSome
def typeTextM (t : Int) : List UInt8 := match rowOfT t with | some j => typeS j | none => [84, 89, 80, 69] ++ Lib.itoa t
def parseTypeM (s : List UInt8) : Int × Int :=
  match rowOfS (greatL s) with
  | some j => (typeT j, 0)
  | none =>
    if (greatL s).take 4 = [84, 89, 80, 69] then
      (if (numM (s.drop 4) 65535).2 = 2 then (0, 6) else if (numM (s.drop 4) 65535).2 ≠ 0 ∨ (numM (s.drop 4) 65535).1 = 0 then (0, 7) else ((numM (s.drop 4) 65535).1, 0))
    else (0, 6)
theorem find_range {n : Nat} {p : Nat → Bool} {j : Nat} (h : (List.range n).find? p = some j) : j < n ∧ p j = true ∧ ∀ i, i < j → p i = false := by
  refine ⟨by have := List.mem_of_find?_eq_some h; simpa using this, List.find?_some h, ?_⟩
  intro i hi
  rw [List.find?_range_eq_some] at h
  simpa using h.2.2 i hi
theorem find_range_none {n : Nat} {p : Nat → Bool} (h : (List.range n).find? p = none) : ∀ i, i < n → p i = false := by
  intro i hi; rw [List.find?_eq_none] at h; simpa using h i (by simpa using hi)
theorem rowOfT_typeT : ∀ j, j < 9 → rowOfT (typeT j) = some j := by decide
theorem rowOfS_typeS : ∀ j, j < 9 → rowOfS (typeS j) = some j := by decide
theorem great_typeS : ∀ j, j < 9 → greatL (typeS j) = typeS j := by decide
theorem typeS_ne : ∀ j, j < 9 → typeS j ≠ [] ∧ (typeS j).take 4 ≠ [84, 89, 80, 69] ∧ (typeS j).length ≤ 5 := by decide
theorem typeT_pos : ∀ j, j < 9 → 0 < typeT j ∧ typeT j ≤ 65535 := by decide
theorem fold_typeS (j : Nat) (hj : j < 9) (s : List UInt8) : (foldL (typeS j) = foldL s) ↔ (typeS j = greatL s) := by
  constructor
  · intro h
    have := congrArg greatL h
    rwa [greatL_fold, greatL_fold, great_typeS j hj] at this
  · intro h
    have := congrArg foldL h
    rwa [foldL_great] at this
theorem great_dec (u : Nat) : greatL (Lib.decDigits u) = Lib.decDigits u := by
  have h := (dec_facts u).1
  unfold greatL
  conv => rhs; rw [← List.map_id (Lib.decDigits u)]
  apply List.map_congr_left
  intro c hc; exact (digit_great c).2 (List.all_eq_true.1 h c hc)
theorem great_text (t : Nat) : greatL (typeTextM t) = typeTextM t := by
  unfold typeTextM
  cases h : rowOfT t with
  | some j => exact great_typeS j (find_range h).1
  | none =>
    show greatL ([84, 89, 80, 69] ++ Lib.itoa t) = [84, 89, 80, 69] ++ Lib.itoa t
    rw [Lib.itoa_nonneg]
    have h1 : greatL ([84, 89, 80, 69] ++ Lib.decDigits t) = greatL [84, 89, 80, 69] ++ greatL (Lib.decDigits t) := by simp [greatL]
    rw [h1, great_dec]; rfl
/-- A text that is a type's words but for its letters is that type. -/
theorem parse_great (t : Nat) (h1 : 0 < t) (h2 : t ≤ 65535) (s : List UInt8) (hs : greatL s = typeTextM t) : parseTypeM s = ((t : Int), 0) := by
  unfold parseTypeM
  rw [hs]
  unfold typeTextM at hs ⊢
  cases h : rowOfT t with
  | some j =>
    obtain ⟨hj, hp, _⟩ := find_range h
    simp only
    rw [rowOfS_typeS j hj]
    simp only [Prod.mk.injEq, and_true]
    exact of_decide_eq_true hp
  | none =>
    rw [h] at hs
    simp only [Lib.itoa_nonneg] at hs ⊢
    have hn : rowOfS ([84, 89, 80, 69] ++ Lib.decDigits t) = none := by
      cases h' : rowOfS ([84, 89, 80, 69] ++ Lib.decDigits t) with
      | none => rfl
      | some j =>
        obtain ⟨hj, hp, _⟩ := find_range h'
        have e := of_decide_eq_true hp
        have := (typeS_ne j hj).2.1
        rw [e] at this
        exact absurd rfl this
    rw [hn]
    simp only
    have h4 : ([84, 89, 80, 69] ++ Lib.decDigits t).take 4 = [84, 89, 80, 69] := rfl
    rw [if_pos h4]
    have hd : greatL (s.drop 4) = Lib.decDigits t := by
      have := congrArg (List.drop 4) hs
      unfold greatL at this ⊢
      rw [← List.map_drop] at this
      exact this
    have hnum : numM (s.drop 4) 65535 = (t, 0) := by
      rw [← numM_map greatU digit_great (s.drop 4) 65535]
      show numM (greatL (s.drop 4)) 65535 = _
      rw [hd]; exact numM_dec t 65535 h2
    rw [hnum]
    simp; omega
theorem text_inj (a b : Nat) (h1 : 0 < a) (h2 : a ≤ 65535) (h3 : 0 < b) (h4 : b ≤ 65535) (h : typeTextM a = typeTextM b) : a = b := by
  have e1 := parse_great a h1 h2 _ (great_text a)
  have e2 := parse_great b h3 h4 _ (great_text b)
  rw [h, e2] at e1
  simp at e1; omega

/-! ### bytes turned one by one -/
def half (f : Nat → UInt8 → UInt8) (l : List UInt8) (k : Nat) : List UInt8 := (l.take k).mapIdx f ++ l.drop k
theorem half_zero (f : Nat → UInt8 → UInt8) (l : List UInt8) : half f l 0 = l := by simp [half]
theorem half_all (f : Nat → UInt8 → UInt8) (l : List UInt8) : half f l l.length = l.mapIdx f := by simp [half]
theorem half_len (f : Nat → UInt8 → UInt8) (l : List UInt8) (k : Nat) : (half f l k).length = l.length := by simp [half]; omega
theorem half_get (f : Nat → UInt8 → UInt8) (l : List UInt8) (k : Nat) (h : k < l.length) : (half f l k)[k]'(by rw [half_len]; exact h) = l[k] := by
  unfold half
  rw [List.getElem_append_right (by simp; omega)]
  simp; congr 1; omega
theorem half_succ (f : Nat → UInt8 → UInt8) (l : List UInt8) (k : Nat) (h : k < l.length) : (half f l k).set k (f k l[k]) = half f l (k + 1) := by
  unfold half
  rw [List.take_succ_eq_append_getElem h, List.mapIdx_append, List.drop_eq_getElem_cons h, List.set_append_right _ _ (by simp; omega)]
  have : k - ((l.take k).mapIdx f).length = 0 := by simp; omega
  rw [this]
  simp only [List.set_cons_zero, List.mapIdx_cons, List.mapIdx_nil, List.append_assoc, List.cons_append, List.nil_append]
  congr 2
  simp; congr 1; omega

end Go.Proofs.YtbnkecmhmcligaaDoor

