/-
  Contract of name.readLabels.
-/
import Derived.Test.YtbnkecmhmcligaaDoorMQ18
import Derived.Test.YtbnkecmhmcligaaDoorMQ34
import Derived.Test.YtbnkecmhmcligaaDoorMQ36
namespace Go.Proofs.YtbnkecmhmcligaaDoor
set_option linter.unusedVariables false
set_option linter.unusedSimpArgs false
set_option maxRecDepth 20000
open Go.RowKit Go.Shelf

def ReadNPost (ps : Nm) (w : World) (e : Ending) (w' : World) : Prop := ∃ v', e = .returned (.tuple #[v', .int .i64 (readN ps).2]) ∧ OwnG 9 strV w' w.heap.size v' (readN ps).1 ∧ Below w.heap.size w w'
theorem readN_fin {ps : Nm} {w w' : World} {e : Ending} {v : Value} (l : Nm) (er : Int) (h : readN ps = (l, er)) (he : e = .returned (.tuple #[v, .int .i64 er])) (ho : OwnG 9 strV w' w.heap.size v l) (hw : Below w.heap.size w w') : ReadNPost ps w e w' := by
  unfold ReadNPost; rw [h]; exact ⟨v, he, ho, hw⟩

end Go.Proofs.YtbnkecmhmcligaaDoor

/-
  Contract of name.Parse.
-/
namespace Go.Proofs.YtbnkecmhmcligaaDoor
set_option linter.unusedVariables false
set_option linter.unusedSimpArgs false
set_option maxRecDepth 20000
open Go.RowKit Go.Shelf

theorem splitM_ne {s : List UInt8} (h : (splitM s).2 = 0) : (splitM s).1 ≠ [] := by
  unfold splitM at h ⊢
  by_cases e : (spRun s).taken = true
  · rw [if_pos e] at h; cases h
  · rw [if_neg e]; simp
theorem splitM_len (s : List UInt8) : (splitM s).1.length ≤ s.length + 1 ∧ ∀ x ∈ (splitM s).1, x.length ≤ s.length := by
  unfold splitM
  by_cases e : (spRun s).taken = true
  · rw [if_pos e]; simp
  · rw [if_neg e]
    have h := (spRun_inv s).2.2
    refine ⟨by simp; omega, ?_⟩
    intro x hx
    simp only [List.mem_append, List.mem_map, List.mem_singleton] at hx
    rcases hx with ⟨p, _, rfl⟩ | rfl
    · unfold piece; simp; omega
    · simp
theorem parseM_len (l : List UInt8) : (parseM l).1.length ≤ l.length := by
  have h : (scan l).1.length ≤ l.length := scanM_len _ l (Nat.le_refl _)
  unfold parseM
  split
  · split
    · exact h
    · simp
  · simp
theorem readN_len {B : Nat} : ∀ (ps : Nm), (∀ p ∈ ps, p.length ≤ B) → (readN ps).1.length ≤ ps.length ∧ ∀ x ∈ (readN ps).1, x.length ≤ B
  | [] => by intro _; simp [readN]
  | p :: r => by
    intro h
    obtain ⟨i1, i2⟩ := readN_len r (fun x hx => h x (by simp [hx]))
    have hp := h p (by simp)
    have hl := parseM_len p
    simp only [readN]
    split
    · split
      · refine ⟨by simpa using i1, ?_⟩
        intro x hx
        rcases List.mem_cons.1 hx with rfl | hx
        · omega
        · exact i2 x hx
      · simp
    · simp
theorem wholeN_eq {ps : Nm} {n : Nat} (hn : ps.length = n + 1) : wholeN ps = decide (ps[n]'(by omega) = []) := by
  unfold wholeN
  rw [List.getLast?_eq_getElem?, show ps.length - 1 = n by omega, List.getElem?_eq_getElem (by omega)]
  simp

def ParseNPost (s : ByteArray) (o : Nm) (w : World) (e : Ending) (w' : World) : Prop := ∃ v', e = .returned (.tuple #[v', .int .i64 (parseN s.data.toList o).2]) ∧ OwnG 9 strV w' w.heap.size v' (parseN s.data.toList o).1 ∧ Below w.heap.size w w'
theorem parseN_fin {s : ByteArray} {o : Nm} {w w' : World} {e : Ending} {v : Value} (l : Nm) (er : Int) (h : parseN s.data.toList o = (l, er)) (he : e = .returned (.tuple #[v, .int .i64 er])) (ho : OwnG 9 strV w' w.heap.size v l) (hw : Below w.heap.size w w') : ParseNPost s o w e w' := by
  unfold ParseNPost; rw [h]; exact ⟨v, he, ho, hw⟩

end Go.Proofs.YtbnkecmhmcligaaDoor

/-
  Names as lists of labels: plain facts for the statements of layer 2: words and back, relative words, another end, one ahead, where two meet.
-/
namespace Go.Proofs.YtbnkecmhmcligaaDoor
set_option linter.unusedVariables false
set_option linter.unusedSimpArgs false
set_option maxRecDepth 20000
open Go.RowKit Go.Shelf

theorem octetW_first (c : UInt8) (r : List UInt8) : octetW c ++ r ≠ [64] ∧ octetW c ++ r ≠ [46] ∧ octetW c ++ r ≠ [] := by
  by_cases hsp : specialU c = true
  · rw [octetW_special hsp]; simp
  have hsp0 : specialU c = false := by simpa using hsp
  by_cases h2 : (c.toNat : Int) < 33 ∨ 126 < (c.toNat : Int)
  · rw [octetW_esc hsp0 h2]; simp [octetEsc]
  · rw [octetW_plain hsp0 (by omega) (by omega)]
    have h46 : c ≠ 46 := by intro e; subst e; revert hsp0; decide
    have h64 : c ≠ 64 := by intro e; subst e; revert hsp0; decide
    refine ⟨?_, ?_, by simp⟩
    · intro e; simp at e; exact h64 e.1
    · intro e; simp at e; exact h46 e.1
theorem textL_first {x : List UInt8} (h : x ≠ []) (r : List UInt8) : textL x ++ r ≠ [64] ∧ textL x ++ r ≠ [46] ∧ textL x ++ r ≠ [] := by
  cases x with
  | nil => exact absurd rfl h
  | cons c x => rw [textL_cons, List.append_assoc]; exact octetW_first c _
theorem joinL_first {n : Nm} (hn : n ≠ []) (hx : ∀ x ∈ n, x ≠ []) : joinL n ≠ [64] ∧ joinL n ≠ [46] ∧ joinL n ≠ [] := by
  cases n with
  | nil => exact absurd rfl hn
  | cons x r => exact textL_first (hx x (by simp)) _
theorem label_ne {n : Nm} (h : checkL n = 0) : ∀ x ∈ n, x ≠ [] := fun x hx => (checkLabelM_ok (checkL_mem h x hx)).1
theorem joinL_snoc_ne {n : Nm} (hn : n ≠ []) (hx : ∀ x ∈ n, x ≠ []) (y : List UInt8) : joinL (n ++ [y]) ≠ [64] ∧ joinL (n ++ [y]) ≠ [46] ∧ joinL (n ++ [y]) ≠ [] := by
  cases n with
  | nil => exact absurd rfl hn
  | cons x r => exact textL_first (hx x (by simp)) _

/-- A name's words are that name again. -/
theorem parse_textN {n : Nm} (h : checkN n = 0) (o : Nm) : parseN (textN n) o = (n, 0) := by
  have hL := checkN_L h
  by_cases hn : n = []
  · subst hn; rfl
  have ht : textN n = joinL (n ++ [[]]) := by unfold textN; rw [if_neg hn, joinL_flat n hn]
  obtain ⟨h1, h2, h3⟩ := joinL_snoc_ne hn (label_ne hL) []
  rw [ht]
  unfold parseN
  rw [if_neg h1, if_neg h2, if_neg h3, split_join (by simp)]
  simp only [if_true, List.map_append, List.map_cons, List.map_nil]
  have hw : wholeN (n.map textL ++ [textL []]) = true := by unfold wholeN; simp [textL]
  have hp : partsN (n.map textL ++ [textL []]) = n.map textL := by unfold partsN; rw [hw]; simp
  unfold endN
  rw [hw, hp, readN_text hL]
  simp [h]
theorem textN_dot {n : Nm} (hn : n ≠ []) : textN n = joinL n ++ [46] := by
  have ht : textN n = joinL (n ++ [[]]) := by unfold textN; rw [if_neg hn, joinL_flat n hn]
  rw [ht, joinL_snoc hn]
  simp [textL]
/-- Without the dot at the end: put ahead of the origin. -/
theorem parse_joinN {n : Nm} (hn : n ≠ []) (h : checkN n = 0) (o : Nm) : parseN (joinL n) o = (if checkN (n ++ o) = 0 then n ++ o else [], checkN (n ++ o)) := by
  have hL := checkN_L h
  obtain ⟨h1, h2, h3⟩ := joinL_first hn (label_ne hL)
  unfold parseN
  rw [if_neg h1, if_neg h2, if_neg h3, split_join hn]
  have hw : wholeN (n.map textL) = false := by
    unfold wholeN
    apply decide_eq_false
    intro e
    obtain ⟨r, x, rfl⟩ : ∃ r x, n = r ++ [x] := ⟨n.dropLast, n.getLast hn, (List.dropLast_concat_getLast hn).symm⟩
    simp at e
    exact label_ne hL x (by simp) (textL_nil_iff e)
  have hp : partsN (n.map textL) = n.map textL := by unfold partsN; rw [hw]; simp
  simp only [if_true]
  unfold endN
  rw [hw, hp, readN_text hL]
  simp only [if_true, Bool.false_eq_true, if_false]
  by_cases hc : checkN (n ++ o) = 0
  · rw [if_pos hc, if_pos hc, hc]
  · rw [if_neg hc, if_neg hc]
theorem checkN_app {n o : Nm} (h : checkL n = 0) (h2 : checkL o = 0) (h3 : checkN (n ++ o) ≠ 0) : checkN (n ++ o) = 3 := by
  unfold checkN at h3 ⊢
  rw [checkL_append, if_pos h, if_pos h2] at h3 ⊢
  by_cases e : 255 < lenN (n ++ o)
  · rw [if_pos e]
  · rw [if_neg e] at h3; exact absurd rfl h3

/-! ### another end -/
theorem checkL_len : ∀ (a b : Nm), a.map List.length = b.map List.length → checkL a = checkL b
  | [], [] => fun _ => rfl
  | [], _ :: _ => by intro h; simp at h
  | _ :: _, [] => by intro h; simp at h
  | x :: r, y :: t => by
    intro h
    simp only [List.map_cons, List.cons.injEq] at h
    have hc : checkLabelM x = checkLabelM y := by
      unfold checkLabelM
      by_cases hx : x = []
      · have : y = [] := List.eq_nil_of_length_eq_zero (by rw [← h.1, hx]; rfl)
        rw [if_pos hx, if_pos this]
      · have : y ≠ [] := by intro e; apply hx; exact List.eq_nil_of_length_eq_zero (by rw [h.1, e]; rfl)
        rw [if_neg hx, if_neg this, h.1]
    simp only [checkL, hc, checkL_len r t h.2]
theorem lenN_len (a b : Nm) (h : a.map List.length = b.map List.length) : lenN a = lenN b := by
  unfold lenN
  have : ∀ c : Nm, (c.map fun x => 1 + x.length) = (c.map List.length).map fun k => 1 + k := fun c => by simp
  rw [this a, this b, h]
theorem checkN_len {a b : Nm} (h : a.map List.length = b.map List.length) : checkN a = checkN b := by
  unfold checkN; rw [checkL_len a b h, lenN_len a b h]
theorem foldL_len (l : List UInt8) : (foldL l).length = l.length := by simp [foldL]
theorem foldN_lens {a b : Nm} (h : foldN a = foldN b) : a.map List.length = b.map List.length := by
  have : ∀ c : Nm, c.map List.length = (foldN c).map List.length := fun c => by
    unfold foldN; rw [List.map_map]; apply List.map_congr_left; intro l _; exact (foldL_len l).symm
  rw [this a, this b, h]
theorem foldN_append (a b : Nm) : foldN (a ++ b) = foldN a ++ foldN b := by simp [foldN]
/-- What stands ahead of f in n, f at its end, is n but for how it is written. -/
theorem under_parts {n f : Nm} (h : underN n f = true) : foldN (n.take (n.length - f.length) ++ f) = foldN n := by
  have hl := underN_len h
  unfold underN at h
  simp only [Bool.and_eq_true, decide_eq_true_eq, sameN_iff] at h
  rw [foldN_append, ← h.2, ← foldN_append, List.take_append_drop]
theorem swap_back {n f t : Nm} (h : (swapN n f t).2 = 0) (hc : checkN n = 0) :
    underN (swapN n f t).1 t = true ∧ (swapN (swapN n f t).1 t f).2 = 0 ∧ sameN (swapN (swapN n f t).1 t f).1 n = true := by
  unfold swapN at h
  by_cases hu : underN n f = true
  · rw [if_pos hu] at h
    by_cases hk : checkN (n.take (n.length - f.length) ++ t) = 0
    · have hs : swapN n f t = (n.take (n.length - f.length) ++ t, 0) := by unfold swapN; rw [if_pos hu, if_pos hk]
      rw [hs]
      have hut : underN (n.take (n.length - f.length) ++ t) t = true := (underN_iff _ _).2 ⟨foldN (n.take (n.length - f.length)), foldN_append _ _⟩
      have hp := under_parts hu
      have htk : (n.take (n.length - f.length) ++ t).take ((n.take (n.length - f.length) ++ t).length - t.length) = n.take (n.length - f.length) := by
        rw [List.length_append, Nat.add_sub_cancel]; exact List.take_left
      have hck : checkN (n.take (n.length - f.length) ++ f) = 0 := by rw [checkN_len (foldN_lens hp)]; exact hc
      have hb : swapN (n.take (n.length - f.length) ++ t) t f = (n.take (n.length - f.length) ++ f, 0) := by
        unfold swapN; rw [if_pos hut, htk, if_pos hck]
      simp only [hb]
      exact ⟨hut, trivial, (sameN_iff _ _).2 hp⟩
    · rw [if_neg hk] at h; simp at h
  · rw [if_neg hu] at h; simp at h

/-! ### one ahead -/
theorem under_child (l : List UInt8) (n : Nm) : underN (l :: n) n = true := (underN_iff _ _).2 ⟨[foldL l], rfl⟩
theorem not_under_child (l : List UInt8) (n : Nm) : underN n (l :: n) = false := by
  cases h : underN n (l :: n) with
  | false => rfl
  | true => have := underN_len h; simp at this; omega
theorem cmpR_more : ∀ (p : Nm) (l : List UInt8), cmpR p (p ++ [l]) = -1
  | [], _ => rfl
  | x :: r, l => by
    simp only [List.cons_append, cmpR]
    rw [if_pos ((compareM_zero x x).2 rfl)]; exact cmpR_more r l
theorem compare_child (l : List UInt8) (n : Nm) : compareN n (l :: n) = -1 := by
  unfold compareN; rw [List.reverse_cons]; exact cmpR_more _ _

/-! ### where two names meet -/
theorem sharedR_le : ∀ p q : Nm, sharedR p q ≤ p.length ∧ sharedR p q ≤ q.length
  | [], _ => by simp [sharedR]
  | _ :: _, [] => by simp [sharedR]
  | x :: r, y :: t => by
    have := sharedR_le r t
    simp only [sharedR]; split <;> simp <;> omega
theorem sharedR_fold : ∀ p q : Nm, foldN (p.take (sharedR p q)) = foldN (q.take (sharedR p q))
  | [], _ => by simp [sharedR]
  | _ :: _, [] => by simp [sharedR]
  | x :: r, y :: t => by
    have ih := sharedR_fold r t
    simp only [sharedR]
    by_cases e : compareM x y = 0
    · rw [if_pos e]; simp only [List.take_succ_cons, foldN, List.map_cons] at ih ⊢
      rw [(compareM_zero x y).1 e, ih]
    · rw [if_neg e]; simp
theorem sharedR_max : ∀ (p q : Nm) (k : Nat), k ≤ p.length → k ≤ q.length → foldN (p.take k) = foldN (q.take k) → k ≤ sharedR p q
  | _, _, 0 => by intros; omega
  | [], _, _ + 1 => by intro h; simp at h
  | _ :: _, [], _ + 1 => by intro _ h; simp at h
  | x :: r, y :: t, k + 1 => by
    intro h1 h2 h3
    simp only [List.take_succ_cons, foldN, List.map_cons, List.cons.injEq] at h3
    have ih := sharedR_max r t k (by simpa using h1) (by simpa using h2) h3.2
    simp only [sharedR]
    rw [if_pos ((compareM_zero x y).2 h3.1)]; omega
theorem take_reverse_drop (p : Nm) (k : Nat) : p.reverse.take k = (p.drop (p.length - k)).reverse := by
  rw [List.take_reverse]
theorem foldN_rev_inj {a b : Nm} (h : foldN a.reverse = foldN b.reverse) : foldN a = foldN b := by
  rw [foldN_reverse, foldN_reverse] at h; exact List.reverse_inj.1 h
theorem common_len (a b : Nm) : (commonN a b).length = sharedR a.reverse b.reverse := by
  have := sharedR_le a.reverse b.reverse
  unfold commonN; rw [List.length_drop]; simp at this; omega
theorem common_under_a (a b : Nm) : underN a (commonN a b) = true := by
  have := sharedR_le a.reverse b.reverse
  rw [underN_iff]; unfold commonN
  refine ⟨foldN (a.take (a.length - sharedR a.reverse b.reverse)), ?_⟩
  rw [← foldN_append, List.take_append_drop]
theorem common_under_b (a b : Nm) : underN b (commonN a b) = true := by
  have hl := sharedR_le a.reverse b.reverse
  simp only [List.length_reverse] at hl
  have h := sharedR_fold a.reverse b.reverse
  rw [take_reverse_drop, take_reverse_drop] at h
  have h2 := foldN_rev_inj h
  rw [underN_iff]; unfold commonN
  refine ⟨foldN (b.take (b.length - sharedR a.reverse b.reverse)), ?_⟩
  rw [h2, ← foldN_append, List.take_append_drop]
/-- What is below both is not deeper: by one label more of a. -/
theorem common_deepest (a b : Nm) (k : Nat) (hk : k ≤ a.length) (h : underN b (a.drop (a.length - k)) = true) : k ≤ (commonN a b).length := by
  rw [common_len]
  have hl := underN_len h
  rw [List.length_drop] at hl
  have hkb : k ≤ b.length := by omega
  unfold underN at h
  simp only [Bool.and_eq_true, decide_eq_true_eq, sameN_iff] at h
  have e : (a.drop (a.length - k)).length = k := by rw [List.length_drop]; omega
  rw [e] at h
  refine sharedR_max _ _ _ (by simpa using hk) (by simpa using hkb) ?_
  rw [take_reverse_drop, take_reverse_drop, foldN_reverse, foldN_reverse, h.2]

end Go.Proofs.YtbnkecmhmcligaaDoor

