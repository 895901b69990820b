/-
  A text that is parted, said by recursion: plain facts on lists of octets.
-/
import Derived.Test.YtnpnfajgphpabaaMQ30
import Derived.Test.YtnpnfajgphpabaaMQ23
import Derived.Test.YtnpnfajgphpabaaMQ43
import Derived.Test.YtnpnfajgphpabaaMQ32
import Derived.RegionTactic
import Derived.ChangeAlike
namespace Go.Proofs.Ytnpnfajgphpabaa
set_option linter.unusedVariables false
set_option linter.unusedSimpArgs false
set_option maxRecDepth 20000
open Go.RowKit Go.Shelf

def splitR : List UInt8 → List UInt8 → List (List UInt8) → List (List UInt8) × Int
  | [], cur, done => (done ++ [cur], 0)
  | [c], cur, done => if c = 46 then (done ++ [cur] ++ [[]], 0) else if c = 92 then ([], 2) else (done ++ [cur ++ [c]], 0)
  | c :: x :: r, cur, done => if c = 46 then splitR (x :: r) [] (done ++ [cur]) else if c = 92 then splitR r (cur ++ [92, x]) done else splitR (x :: r) (cur ++ [c]) done
theorem splitR_dot (r cur : List UInt8) (done : List (List UInt8)) : splitR (46 :: r) cur done = splitR r [] (done ++ [cur]) := by
  cases r <;> simp [splitR]
theorem splitR_stroke (x : UInt8) (r cur : List UInt8) (done : List (List UInt8)) : splitR (92 :: x :: r) cur done = splitR r (cur ++ [92, x]) done := by
  simp [splitR]
theorem splitR_stroke_end (cur : List UInt8) (done : List (List UInt8)) : splitR [92] cur done = ([], 2) := by
  simp [splitR]
theorem splitR_other {c : UInt8} (h1 : c ≠ 46) (h2 : c ≠ 92) (r cur : List UInt8) (done : List (List UInt8)) : splitR (c :: r) cur done = splitR r (cur ++ [c]) done := by
  cases r <;> simp [splitR, h1, h2]

theorem spRun_at (l : List UInt8) : (spRun l).at' = l.length := (spRun_inv l).1
theorem piece_pre (pre rest : List UInt8) (a b : Nat) (hb : b ≤ pre.length) : piece (pre ++ rest) (a, b) = piece pre (a, b) := by
  unfold piece; simp only; rw [List.take_append_of_le_length hb]
theorem spRun_parts_le (l : List UInt8) : ∀ p ∈ (spRun l).parts, p.2 ≤ l.length := by
  suffices h : ∀ (l : List UInt8) (t : SpSt) (n : Nat), t.at' = n → (∀ p ∈ t.parts, p.2 ≤ n) → ∀ p ∈ (l.foldl spStep t).parts, p.2 ≤ n + l.length by
    have := h l ⟨0, 0, false, []⟩ 0 rfl (by simp)
    unfold spRun; simpa using this
  intro l
  induction l with
  | nil => intro t n h1 h2; simpa using h2
  | cons c l ih =>
    intro t n h1 h2
    have := ih (spStep t c) (n + 1) (by unfold spStep; split <;> (try split) <;> (try split) <;> simp [h1]) (by
      intro p hp
      unfold spStep at hp
      split at hp
      · have := h2 p hp; omega
      · split at hp
        · have := h2 p hp; omega
        · split at hp
          · simp only [List.mem_append, List.mem_singleton] at hp
            rcases hp with hp | rfl
            · have := h2 p hp; omega
            · simp; omega
          · have := h2 p hp; omega)
    simp only [List.foldl_cons, List.length_cons]
    intro p hp
    have := this p hp
    omega

theorem splitM_rest : ∀ (n : Nat) (rest pre : List UInt8), rest.length ≤ n → (spRun pre).taken = false →
    splitM (pre ++ rest) = splitR rest (pre.drop (spRun pre).start) ((spRun pre).parts.map (piece pre)) := by
  intro n
  induction n with
  | zero =>
    intro rest pre hn ht
    obtain rfl : rest = [] := List.eq_nil_of_length_eq_zero (by omega)
    rw [List.append_nil]
    unfold splitM splitR
    rw [if_neg (by simp [ht])]
  | succ n ih =>
    intro rest pre hn ht
    have hst := (spRun_inv pre).2.1
    have hparts : ∀ (x : UInt8) (q : List UInt8), (spRun pre).parts.map (piece (pre ++ x :: q)) = (spRun pre).parts.map (piece pre) := by
      intro x q
      apply List.map_congr_left
      intro p hp
      exact piece_pre pre _ p.1 p.2 (spRun_parts_le pre p hp)
    match rest with
    | [] =>
      rw [List.append_nil]
      unfold splitM splitR
      rw [if_neg (by simp [ht])]
    | c :: r =>
      by_cases h1 : c = 46
      · subst h1
        have e : spRun (pre ++ [46]) = ⟨(spRun pre).at' + 1, (spRun pre).at' + 1, false, (spRun pre).parts ++ [((spRun pre).start, (spRun pre).at')]⟩ := by
          rw [spRun_snoc]; exact spStep_dot ht (by decide)
        have := ih r (pre ++ [46]) (by simp at hn; omega) (by rw [e])
        rw [List.append_assoc] at this
        rw [show pre ++ 46 :: r = pre ++ ([46] ++ r) from rfl, this, splitR_dot, e]
        simp only [List.map_append, List.map_cons, List.map_nil, spRun_at]
        rw [hparts 46 [], List.drop_eq_nil_of_le (by simp)]
        congr 2
        unfold piece
        simp
      · by_cases h2 : c = 92
        · subst h2
          match r with
          | [] =>
            have e : (spRun (pre ++ [92])).taken = true := by rw [spRun_snoc, spStep_stroke ht (by decide)]
            rw [splitR_stroke_end]
            unfold splitM
            rw [if_pos e]
          | x :: r =>
            have e1 : spRun (pre ++ [92]) = ⟨(spRun pre).at' + 1, (spRun pre).start, true, (spRun pre).parts⟩ := by rw [spRun_snoc]; exact spStep_stroke ht (by decide)
            have e : spRun (pre ++ [92] ++ [x]) = ⟨(spRun pre).at' + 1 + 1, (spRun pre).start, false, (spRun pre).parts⟩ := by rw [spRun_snoc, spStep_taken (by rw [e1]), e1]
            have := ih r (pre ++ [92] ++ [x]) (by simp at hn; omega) (by rw [e])
            rw [show pre ++ 92 :: x :: r = pre ++ [92] ++ [x] ++ r by simp, this, splitR_stroke, e]
            simp only
            rw [show pre ++ [92] ++ [x] = pre ++ 92 :: [x] by simp, hparts 92 [x], List.drop_append_of_le_length hst]
        · have e : spRun (pre ++ [c]) = ⟨(spRun pre).at' + 1, (spRun pre).start, false, (spRun pre).parts⟩ := by
            rw [spRun_snoc]; unfold spStep; simp [ht, h1, h2]
          have := ih r (pre ++ [c]) (by simp at hn; omega) (by rw [e])
          rw [show pre ++ c :: r = pre ++ [c] ++ r by simp, this, splitR_other h1 h2, e]
          simp only
          rw [hparts c [], List.drop_append_of_le_length hst]

theorem splitM_eq (s : List UInt8) : splitM s = splitR s [] [] := by
  have := splitM_rest s.length s [] (Nat.le_refl _) rfl
  simpa [spRun] using this

theorem splitR_octet (c : UInt8) (r cur : List UInt8) (done : List (List UInt8)) : splitR (octetW c ++ r) cur done = splitR r (cur ++ octetW c) done := by
  have hc := c.toNat_lt
  by_cases hsp : specialU c = true
  · rw [octetW_special hsp]; exact splitR_stroke c r cur done
  · have hsp0 : specialU c = false := by simpa using hsp
    have s1 : ¬ (c.toNat = 46 ∨ c.toNat = 92 ∨ c.toNat = 34 ∨ c.toNat = 40 ∨ c.toNat = 41 ∨ c.toNat = 59 ∨ c.toNat = 64 ∨ c.toNat = 36) := of_decide_eq_false hsp0
    by_cases hpl : 33 ≤ (c.toNat : Int) ∧ (c.toNat : Int) ≤ 126
    · rw [octetW_plain hsp0 hpl.1 hpl.2]
      have e1 : c ≠ 46 := by intro e; subst e; simp at s1
      have e2 : c ≠ 92 := by intro e; subst e; simp at s1
      exact splitR_other e1 e2 r cur done
    · rw [octetW_esc hsp0 (by omega)]
      have e2 : (48 + c / 10 % 10 : UInt8).toNat = 48 + c.toNat / 10 % 10 := by rw [UInt8.toNat_add, UInt8.toNat_mod, UInt8.toNat_div]; simp only [UInt8.reduceToNat]; omega
      have e3 : (48 + c % 10 : UInt8).toNat = 48 + c.toNat % 10 := by rw [UInt8.toNat_add, UInt8.toNat_mod]; simp only [UInt8.reduceToNat]; omega
      have n1 : ∀ x : UInt8, 48 ≤ x.toNat → x.toNat ≤ 57 → x ≠ 46 ∧ x ≠ 92 := by
        intro x h1 h2; constructor <;> (intro e; subst e; simp at h1 h2)
      have d2 := n1 (48 + c / 10 % 10) (by omega) (by omega)
      have d3 := n1 (48 + c % 10) (by omega) (by omega)
      unfold octetEsc
      simp only [List.cons_append, List.nil_append]
      rw [splitR_stroke, splitR_other d2.1 d2.2, splitR_other d3.1 d3.2]
      simp
theorem splitR_text : ∀ (l r cur : List UInt8) (done : List (List UInt8)), splitR (textL l ++ r) cur done = splitR r (cur ++ textL l) done
  | [], r, cur, done => by simp [textL]
  | c :: l, r, cur, done => by
    rw [textL_cons, List.append_assoc, splitR_octet, splitR_text l]; simp

/-- Labels in words, dots between. -/
def joinL : List (List UInt8) → List UInt8
  | [] => []
  | x :: xs => textL x ++ xs.flatMap fun y => 46 :: textL y
theorem joinL_snoc {xs : List (List UInt8)} (h : xs ≠ []) (y : List UInt8) : joinL (xs ++ [y]) = joinL xs ++ [46] ++ textL y := by
  cases xs with
  | nil => exact absurd rfl h
  | cons x xs => simp [joinL]
theorem splitR_joined : ∀ (xs : List (List UInt8)) (cur : List UInt8) (done : List (List UInt8)), splitR (xs.flatMap fun y => 46 :: textL y) cur done = (done ++ [cur] ++ xs.map textL, 0)
  | [], cur, done => by simp [splitR]
  | x :: xs, cur, done => by
    rw [List.flatMap_cons, List.cons_append, splitR_dot, splitR_text, splitR_joined xs]; simp
theorem split_join {xs : List (List UInt8)} (h : xs ≠ []) : splitM (joinL xs) = (xs.map textL, 0) := by
  cases xs with
  | nil => exact absurd rfl h
  | cons x xs => rw [splitM_eq]; unfold joinL; rw [splitR_text, splitR_joined]; simp
theorem joinL_le : ∀ xs : List (List UInt8), (∀ x ∈ xs, x.length ≤ 63) → (joinL xs).length ≤ 253 * xs.length
  | [], _ => by simp [joinL]
  | x :: xs, h => by
    have h1 := textL_le x
    have h2 := h x (by simp)
    have h3 : ∀ ys : List (List UInt8), (∀ y ∈ ys, y.length ≤ 63) → (ys.flatMap fun y => 46 :: textL y).length ≤ 253 * ys.length := by
      intro ys
      induction ys with
      | nil => simp
      | cons y ys ih =>
        intro hy
        have a1 := textL_le y
        have a2 := hy y (by simp)
        have a3 := ih (fun z hz => hy z (by simp [hz]))
        simp only [List.flatMap_cons, List.length_append, List.length_cons] at a3 ⊢
        omega
    have h4 := h3 xs (fun z hz => h z (by simp [hz]))
    simp only [joinL, List.length_append, List.length_cons] at h4 ⊢
    omega

end Go.Proofs.Ytnpnfajgphpabaa

/-
  The document's parting of a text (package toponymref6): Split: the parts that label.Split tells.
-/
namespace Go.Proofs.Ytnpnfajgphpabaa
set_option linter.unusedVariables false
set_option linter.unusedSimpArgs false
set_option maxRecDepth 20000
open Go.RowKit Go.Shelf

def RSplitPost (s : ByteArray) (w : World) (e : Ending) (w' : World) : Prop :=
  ∃ v, e = .returned (.tuple #[v, .int .i64 (splitM s.data.toList).2]) ∧ OwnG 9 strV w' w.heap.size v (splitM s.data.toList).1 ∧ Below w.heap.size w w'
theorem rsplit_fin {s : ByteArray} {w w' : World} {e : Ending} {v : Value} (l : List (List UInt8)) (er : Int) (h : splitM s.data.toList = (l, er)) (he : e = .returned (.tuple #[v, .int .i64 er])) (ho : OwnG 9 strV w' w.heap.size v l) (hw : Below w.heap.size w w') : RSplitPost s w e w' := by
  unfold RSplitPost; rw [h]; exact ⟨v, he, ho, hw⟩

theorem set_last (done : List (List UInt8)) (cur y : List UInt8) : (done ++ [cur]).set done.length y = done ++ [y] := by
  rw [List.set_append_right _ _ (Nat.le_refl _)]; simp
theorem get_last (done : List (List UInt8)) (cur : List UInt8) (h : done.length < (done ++ [cur]).length) : (done ++ [cur])[done.length] = cur := by simp
theorem extract_two (s : ByteArray) (k : Nat) (h : k + 1 < s.size) : s.extract k (k + 2) = ⟨#[s[k], s[k + 1]]⟩ := by
  apply ba_ext
  have h1 : (s.extract k (k + 2)).data.toList = (s.data.toList.take (k + 2)).drop k := by simp [ByteArray.data_extract, List.drop_take]
  rw [h1, take_snoc_get s (k + 1) h, take_snoc_get s k (by omega), List.append_assoc, List.drop_left' (by simp; omega)]; rfl

end Go.Proofs.Ytnpnfajgphpabaa

/-
  Trees of names as rows of ways down from the root: plain facts.
-/
namespace Go.Proofs.Ytnpnfajgphpabaa
set_option linter.unusedVariables false
set_option linter.unusedSimpArgs false
open Go.RowKit Go.Shelf
/-- A name's way down: its labels, folded, from the root's side on. -/
def wayN (n : Nm) : Nm := (foldN n).reverse
structure TreeOK (ks : List Nm) : Prop where
  root : [] ∈ ks
  nodup : ks.Nodup
  up : ∀ p l, p ++ [l] ∈ ks → p ∈ ks
  fold : ∀ p ∈ ks, foldN p = p
theorem TreeOK.pre {ks : List Nm} (h : TreeOK ks) : ∀ (r p : Nm), p ++ r ∈ ks → p ∈ ks
  | [], p, hp => by simpa using hp
  | l :: r, p, hp => h.up p l (h.pre r (p ++ [l]) (by simpa using hp))
theorem TreeOK.take {ks : List Nm} (h : TreeOK ks) {p : Nm} (hp : p ∈ ks) (k : Nat) : p.take k ∈ ks := h.pre (p.drop k) _ (by rw [List.take_append_drop]; exact hp)
theorem treeOK_nil : TreeOK [[]] := ⟨by simp, by simp, fun p l h => by simp at h, by simp [foldN]⟩
theorem foldN_idem (n : Nm) : foldN (foldN n) = foldN n := by
  unfold foldN; rw [List.map_map]; apply List.map_congr_left; intro l _; exact foldL_idem l
theorem foldN_rev (n : Nm) : foldN n.reverse = (foldN n).reverse := by simp [foldN]
theorem foldN_take (n : Nm) (k : Nat) : foldN (n.take k) = (foldN n).take k := by simp [foldN, List.map_take]
theorem foldN_drop (n : Nm) (k : Nat) : foldN (n.drop k) = (foldN n).drop k := by simp [foldN, List.map_drop]
theorem wayN_fold (n : Nm) : foldN (wayN n) = wayN n := by unfold wayN; rw [foldN_rev, foldN_idem]
theorem wayN_len (n : Nm) : (wayN n).length = n.length := by simp [wayN, foldN]
theorem wayN_take (n : Nm) (k : Nat) (hk : k ≤ n.length) : ((wayN n).take k).reverse = foldN (n.drop (n.length - k)) := by
  unfold wayN; rw [List.take_reverse, List.reverse_reverse, foldN_drop, foldN_len]
theorem wayN_eq {a b : Nm} : wayN a = wayN b ↔ sameN a b = true := by
  rw [sameN_iff]; unfold wayN; exact ⟨fun h => by rw [← List.reverse_reverse (foldN a), h, List.reverse_reverse], fun h => by rw [h]⟩

/-! ### a name put -/
def addP (ks : List Nm) (p : Nm) : Nat → List Nm
  | 0 => ks
  | k + 1 => if p.take (k + 1) ∈ addP ks p k then addP ks p k else addP ks p k ++ [p.take (k + 1)]
theorem mem_addP (ks : List Nm) (p q : Nm) : ∀ k, q ∈ addP ks p k ↔ q ∈ ks ∨ ∃ j, 1 ≤ j ∧ j ≤ k ∧ q = p.take j
  | 0 => by simp only [addP]; exact ⟨.inl, fun h => h.elim id (fun ⟨j, h1, h2, _⟩ => by omega)⟩
  | k + 1 => by
    have ih := mem_addP ks p q k
    simp only [addP]
    split
    · rename_i h
      rw [ih]
      refine ⟨fun h => h.imp id (fun ⟨j, a, b, c⟩ => ⟨j, a, by omega, c⟩), fun h2 => ?_⟩
      rcases h2 with h2 | ⟨j, a, b, c⟩
      · exact .inl h2
      · by_cases e : j = k + 1
        · subst e; rw [← ih, c]; exact h
        · exact .inr ⟨j, a, by omega, c⟩
    · rw [List.mem_append, ih, List.mem_singleton]
      refine ⟨fun h => ?_, fun h => ?_⟩
      · rcases h with (h | ⟨j, a, b, c⟩) | h
        · exact .inl h
        · exact .inr ⟨j, a, by omega, c⟩
        · exact .inr ⟨k + 1, by omega, Nat.le_refl _, h⟩
      · rcases h with h | ⟨j, a, b, c⟩
        · exact .inl (.inl h)
        · by_cases e : j = k + 1
          · subst e; exact .inr c
          · exact .inl (.inr ⟨j, a, by omega, c⟩)
theorem addP_len (ks : List Nm) (p : Nm) : ∀ k, (addP ks p k).length ≤ ks.length + k
  | 0 => Nat.le_refl _
  | k + 1 => by
    have := addP_len ks p k
    simp only [addP]; split
    · omega
    · simp; omega
theorem addP_mem (ks : List Nm) (p : Nm) (hr : [] ∈ ks) (k : Nat) : p.take k ∈ addP ks p k := by
  rw [mem_addP]
  rcases k with _ | k
  · exact .inl (by simpa using hr)
  · exact .inr ⟨k + 1, by omega, Nat.le_refl _, rfl⟩
theorem TreeOK.snoc {ks : List Nm} {p : Nm} {l : List UInt8} (h : TreeOK ks) (hp : p ∈ ks) (hn : p ++ [l] ∉ ks) (hf : foldN (p ++ [l]) = p ++ [l]) : TreeOK (ks ++ [p ++ [l]]) :=
  ⟨by simp [h.root], by
    rw [List.nodup_append]
    exact ⟨h.nodup, by simp, fun a ha b hb => by rw [List.mem_singleton] at hb; subst hb; intro e; subst e; exact hn ha⟩, fun q m hq => by
    rw [List.mem_append, List.mem_singleton] at hq ⊢
    rcases hq with hq | hq
    · exact .inl (h.up q m hq)
    · obtain ⟨e, _⟩ := List.append_inj' hq rfl
      exact .inl (e ▸ hp), fun q hq => by
    rw [List.mem_append, List.mem_singleton] at hq
    rcases hq with hq | hq
    · exact h.fold q hq
    · rw [hq]; exact hf⟩
theorem take_succ_get {p : Nm} {k : Nat} (hk : k < p.length) : p.take (k + 1) = p.take k ++ [p[k]] := List.take_succ_eq_append_getElem hk
theorem addP_ok {ks : List Nm} {p : Nm} (h : TreeOK ks) (hf : foldN p = p) : ∀ k, k ≤ p.length → TreeOK (addP ks p k)
  | 0, _ => h
  | k + 1, hk => by
    have ih := addP_ok h hf k (by omega)
    simp only [addP]
    split
    · exact ih
    · rename_i hn
      rw [take_succ_get (by omega)] at hn ⊢
      refine ih.snoc (addP_mem ks p h.root k) hn ?_
      rw [← take_succ_get (by omega), foldN_take, hf]
def addK (ks : List Nm) (p : Nm) : List Nm := addP ks p p.length
theorem mem_addK {ks : List Nm} {p q : Nm} (hr : [] ∈ ks) : q ∈ addK ks p ↔ q ∈ ks ∨ q <+: p := by
  unfold addK
  rw [mem_addP]
  refine ⟨fun h => h.imp id (fun ⟨j, _, _, e⟩ => e ▸ List.take_prefix _ _), fun h => ?_⟩
  rcases h with h | h
  · exact .inl h
  · rcases q with _ | ⟨x, q⟩
    · exact .inl hr
    · exact .inr ⟨(x :: q).length, by simp, h.length_le, List.prefix_iff_eq_take.1 h⟩

/-! ### the deepest -/
/-- d is how deep the way p is there. -/
def DeepAt (ks : List Nm) (p : Nm) (d : Nat) : Prop := d ≤ p.length ∧ p.take d ∈ ks ∧ ∀ k ≤ p.length, p.take k ∈ ks → k ≤ d
theorem DeepAt.uniq {ks : List Nm} {p : Nm} {d e : Nat} (h : DeepAt ks p d) (k : DeepAt ks p e) : d = e := Nat.le_antisymm (k.2.2 d h.1 h.2.1) (h.2.2 e k.1 k.2.1)
theorem deepAt_all {ks : List Nm} {p : Nm} (h : p ∈ ks) : DeepAt ks p p.length := ⟨Nat.le_refl _, by simpa using h, fun k hk _ => hk⟩
theorem deepAt_stop {ks : List Nm} {p : Nm} {k : Nat} (h : TreeOK ks) (hk : k < p.length) (h1 : p.take k ∈ ks) (h2 : p.take (k + 1) ∉ ks) : DeepAt ks p k :=
  ⟨by omega, h1, fun m hm hmk => by
    refine Nat.le_of_not_lt fun hlt => h2 ?_
    have := h.take hmk (k + 1)
    rwa [List.take_take, Nat.min_eq_left (by omega)] at this⟩
theorem DeepAt.full {ks : List Nm} {p : Nm} {d : Nat} (h : DeepAt ks p d) : d = p.length ↔ p ∈ ks :=
  ⟨fun e => by have := h.2.1; rw [e, List.take_length] at this; exact this, fun hp => h.uniq (deepAt_all hp)⟩

/-! ### the order -/
theorem compareM_self (x : List UInt8) : compareM x x = 0 := (compareM_zero _ _).2 rfl
theorem cmpR_pre : ∀ (p : Nm) (l : List UInt8) (r : Nm), cmpR p (p ++ l :: r) = -1
  | [], _, _ => rfl
  | x :: p, l, r => by simp only [List.cons_append, cmpR, compareM_self, if_pos]; exact cmpR_pre p l r
theorem cmpR_fork : ∀ (p : Nm) (l m : List UInt8) (r s : Nm), compareM l m ≠ 0 → cmpR (p ++ l :: r) (p ++ m :: s) = compareM l m
  | [], l, m, r, s, h => by simp only [List.nil_append, cmpR]; rw [if_neg h]
  | x :: p, l, m, r, s, h => by simp only [List.cons_append, cmpR, compareM_self, if_pos]; exact cmpR_fork p l m r s h
theorem cmpR_eq {a b : Nm} (ha : foldN a = a) (hb : foldN b = b) (h : cmpR a b = 0) : a = b := by
  have := (cmpR_zero a b).1 h; rwa [ha, hb] at this
/-- A row of ways in order, none twice. -/
abbrev Rising (l : List Nm) : Prop := l.Pairwise fun a b => cmpR a b = -1
theorem rising_uniq : ∀ {a b : List Nm}, Rising a → Rising b → (∀ x, x ∈ a ↔ x ∈ b) → a = b
  | [], [], _, _, _ => rfl
  | [], y :: b, _, _, h => by have := (h y).2 (by simp); cases this
  | x :: a, [], _, _, h => by have := (h x).1 (by simp); cases this
  | x :: a, y :: b, ha, hb, h => by
    obtain ⟨ha1, ha2⟩ := List.pairwise_cons.1 ha
    obtain ⟨hb1, hb2⟩ := List.pairwise_cons.1 hb
    have irr : ∀ z : Nm, cmpR z z ≠ -1 := fun z e => by have := (cmpR_zero z z).2 rfl; omega
    have hxy : x = y := by
      rcases List.mem_cons.1 ((h x).1 (by simp)) with e | e
      · exact e
      · rcases List.mem_cons.1 ((h y).2 (by simp)) with e2 | e2
        · exact e2.symm
        · have h1 := hb1 x e
          have h2 := ha1 y e2
          have := cmpR_swap x y
          omega
    subst hxy
    congr 1
    refine rising_uniq ha2 hb2 fun z => ⟨fun hz => ?_, fun hz => ?_⟩
    · rcases List.mem_cons.1 ((h z).1 (by simp [hz])) with e | e
      · subst e; exact absurd (ha1 z hz) (irr z)
      · exact e
    · rcases List.mem_cons.1 ((h z).2 (by simp [hz])) with e | e
      · subst e; exact absurd (hb1 z hz) (irr z)
      · exact e
def srtT (ks : List Nm) : List Nm := ks.mergeSort fun a b => decide (cmpR a b ≤ 0)
theorem mem_srtT {ks : List Nm} {p : Nm} : p ∈ srtT ks ↔ p ∈ ks := (List.mergeSort_perm ks _).mem_iff
theorem srtT_len (ks : List Nm) : (srtT ks).length = ks.length := (List.mergeSort_perm ks _).length_eq
theorem srtT_rising {ks : List Nm} (h : TreeOK ks) : Rising (srtT ks) := by
  have tr : ∀ a b c : Nm, decide (cmpR a b ≤ 0) = true → decide (cmpR b c ≤ 0) = true → decide (cmpR a c ≤ 0) = true := fun a b c h1 h2 => by
    rw [decide_eq_true_iff] at *; exact cmpR_trans a b c h1 h2
  have to : ∀ a b : Nm, (decide (cmpR a b ≤ 0) || decide (cmpR b a ≤ 0)) = true := fun a b => by
    have := cmpR_swap a b
    rw [Bool.or_eq_true, decide_eq_true_iff, decide_eq_true_iff]; omega
  have h1 := List.pairwise_mergeSort tr to ks
  have h2 : (srtT ks).Nodup := (List.mergeSort_perm ks _).nodup_iff.2 h.nodup
  have h3 : ∀ x ∈ srtT ks, foldN x = x := fun x hx => h.fold x (mem_srtT.1 hx)
  unfold srtT at h2 h3 ⊢
  generalize ks.mergeSort _ = L at *
  induction L with
  | nil => exact List.Pairwise.nil
  | cons x r ih =>
    obtain ⟨a1, a2⟩ := List.pairwise_cons.1 h1
    obtain ⟨b1, b2⟩ := List.nodup_cons.1 h2
    refine List.pairwise_cons.2 ⟨fun y hy => ?_, ih a2 b2 (fun z hz => h3 z (by simp [hz]))⟩
    have h4 := a1 y hy
    rw [decide_eq_true_iff] at h4
    rcases cmpR_range x y with e | e | e
    · exact e
    · have := cmpR_eq (h3 x (by simp)) (h3 y (by simp [hy])) e
      subst this; exact absurd hy b1
    · omega
theorem srt_is {ks l : List Nm} (h : TreeOK ks) (hl : Rising l) (hm : ∀ x, x ∈ l ↔ x ∈ ks) : l = srtT ks := rising_uniq hl (srtT_rising h) fun x => by rw [hm, mem_srtT]

/-! ### each ahead of those below it -/
/-- The labels right below p, in order. -/
structure KidsOf (ks : List Nm) (p : Nm) (ls : List (List UInt8)) : Prop where
  mem : ∀ l, l ∈ ls ↔ p ++ [l] ∈ ks
  rise : ls.Pairwise fun a b => compareM a b = -1
def subT (ks : List Nm) (p : Nm) : List Nm := (srtT ks).filter fun q => decide (p <+: q)
theorem mem_subT {ks : List Nm} {p q : Nm} : q ∈ subT ks p ↔ q ∈ ks ∧ p <+: q := by unfold subT; rw [List.mem_filter, mem_srtT]; simp
theorem subT_root (ks : List Nm) : subT ks [] = srtT ks := by unfold subT; rw [List.filter_eq_self]; simp
theorem subT_cons {ks : List Nm} {p : Nm} {ls : List (List UInt8)} (h : TreeOK ks) (hp : p ∈ ks) (hk : KidsOf ks p ls) : subT ks p = p :: ls.flatMap fun l => subT ks (p ++ [l]) := by
  have inner : ∀ l q, q ∈ subT ks (p ++ [l]) → ∃ r, q = p ++ l :: r := fun l q hq => by
    obtain ⟨_, r, hr⟩ := mem_subT.1 hq
    exact ⟨r, by rw [← hr]; simp⟩
  refine rising_uniq ((srtT_rising h).filter _) (List.pairwise_cons.2 ⟨fun q hq => ?_, ?_⟩) fun q => ?_
  · obtain ⟨l, _, hq⟩ := List.mem_flatMap.1 hq
    obtain ⟨r, rfl⟩ := inner l q hq
    exact cmpR_pre p l r
  · have hr := hk.rise
    clear hk
    induction ls with
    | nil => exact List.Pairwise.nil
    | cons l t ih =>
      obtain ⟨a1, a2⟩ := List.pairwise_cons.1 hr
      rw [List.flatMap_cons]
      refine List.pairwise_append.2 ⟨(srtT_rising h).filter _, ih a2, fun a ha b hb => ?_⟩
      obtain ⟨r, rfl⟩ := inner l a ha
      obtain ⟨m, hm, hb⟩ := List.mem_flatMap.1 hb
      obtain ⟨s, rfl⟩ := inner m b hb
      have := a1 m hm
      rw [cmpR_fork p l m r s (by omega)]; exact this
  · rw [mem_subT, List.mem_cons, List.mem_flatMap]
    refine ⟨fun ⟨h1, r, hr⟩ => ?_, fun h1 => ?_⟩
    · rcases r with _ | ⟨l, r⟩
      · left; simpa using hr.symm
      · right
        have e : q = (p ++ [l]) ++ r := by rw [← hr]; simp
        refine ⟨l, (hk.mem l).2 (h.pre r _ (e ▸ h1)), mem_subT.2 ⟨h1, r, e.symm⟩⟩
    · rcases h1 with rfl | ⟨l, hl, hq⟩
      · exact ⟨hp, List.prefix_refl _⟩
      · obtain ⟨h1, r, hr⟩ := mem_subT.1 hq
        exact ⟨h1, l :: r, by rw [← hr]; simp⟩

/-! ### the order of folded labels is that of octets -/
theorem compareM_le : ∀ {a b : List UInt8}, foldL a = a → foldL b = b → (compareM a b ≤ 0 ↔ a ≤ b)
  | [], [], _, _ => by simp [compareM]
  | [], _ :: _, _, _ => by simp [compareM]
  | _ :: _, [], _, _ => by simp [compareM]
  | x :: a, y :: b, ha, hb => by
    simp only [foldL, List.map_cons, List.cons.injEq] at ha hb
    have ih := compareM_le (a := a) (b := b) ha.2 hb.2
    simp only [compareM, ha.1, hb.1]
    rw [List.cons_le_cons_iff]
    by_cases e : x = y
    · subst e; rw [if_pos rfl, ih]
      exact ⟨fun h => .inr ⟨rfl, h⟩, fun h => h.elim (fun h => absurd h (by simp)) (fun h => h.2)⟩
    · rw [if_neg e]
      have hn : x.toNat ≠ y.toNat := fun h => e (UInt8.toNat_inj.1 h)
      have hl : x < y ↔ x.toNat < y.toNat := UInt8.lt_iff_toNat_lt
      unfold cmpI
      constructor
      · intro h
        left
        rw [hl]
        split at h
        · omega
        · split at h <;> omega
      · rintro (h | h)
        · rw [hl] at h; rw [if_pos (by omega)]; omega
        · exact absurd h.1 e
theorem kids_of {ks : List Nm} {p : Nm} {ss : List (List UInt8)} (h : TreeOK ks) (hm : ∀ l, l ∈ ss ↔ p ++ [l] ∈ ks) (hn : ss.Nodup) : KidsOf ks p (ss.mergeSort fun x y => decide (x ≤ y)) := by
  have hf : ∀ l, p ++ [l] ∈ ks → foldL l = l := fun l hl => by
    have := h.fold _ hl
    unfold foldN at this
    rw [List.map_append] at this
    have := (List.append_inj' this rfl).2
    simpa using this
  have tr : ∀ a b c : List UInt8, decide (a ≤ b) = true → decide (b ≤ c) = true → decide (a ≤ c) = true := fun a b c h1 h2 => by rw [decide_eq_true_iff] at *; exact List.le_trans h1 h2
  have to : ∀ a b : List UInt8, (decide (a ≤ b) || decide (b ≤ a)) = true := fun a b => by simp only [Bool.or_eq_true, decide_eq_true_eq]; exact List.le_total a b
  have hp := List.mergeSort_perm ss fun x y => decide (x ≤ y)
  refine ⟨fun l => by rw [hp.mem_iff, hm], ?_⟩
  have h1 := List.pairwise_mergeSort tr to ss
  have h2 := hp.nodup_iff.2 hn
  have h3 : ∀ x ∈ ss.mergeSort fun x y => decide (x ≤ y), foldL x = x := fun x hx => hf x ((hm x).1 (hp.mem_iff.1 hx))
  generalize ss.mergeSort (fun x y => decide (x ≤ y)) = L at *
  clear hp
  induction L with
  | nil => exact List.Pairwise.nil
  | cons x r ih =>
    obtain ⟨a1, a2⟩ := List.pairwise_cons.1 h1
    obtain ⟨b1, b2⟩ := List.nodup_cons.1 h2
    refine List.pairwise_cons.2 ⟨fun y hy => ?_, ih a2 b2 (fun z hz => h3 z (by simp [hz]))⟩
    have h4 := a1 y hy
    rw [decide_eq_true_iff] at h4
    have h5 := (compareM_le (h3 x (by simp)) (h3 y (by simp [hy]))).2 h4
    rcases compareM_range x y with e | e | e
    · exact e
    · have := (compareM_zero x y).1 e
      rw [h3 x (by simp), h3 y (by simp [hy])] at this
      subst this; exact absurd hy b1
    · omega
end Go.Proofs.Ytnpnfajgphpabaa

