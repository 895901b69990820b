/-
  A text that is parted, said by recursion: plain facts on lists of octets.
-/
import Derived.Test.YtkjmghnbcnbdbaaGreatDoorMQ34
import Derived.Test.YtkjmghnbcnbdbaaGreatDoorMQ31
import Derived.Test.YtkjmghnbcnbdbaaGreatDoorMQ12
import Derived.RegionTactic
import Derived.ChangeAlike
import Derived.Test.YtkjmghnbcnbdbaaGreatDoorMQ39
import Derived.StillTail
import Derived.Sort.QuietTacIn
namespace Go.Proofs.YtkjmghnbcnbdbaaGreatDoor
set_option maxRecDepth 20000
open Go.RowKit Go.Shelf

def splitR : List UInt8 → List UInt8 → List (List UInt8) → List (List UInt8) × Int
  | [], cur, done => (done ++ [cur], 0)
  | [c], cur, done => if c = 46 then (done ++ [cur] ++ [[]], 0) else if c = 92 then ([], 2) else (done ++ [cur ++ [c]], 0)
  | c :: x :: r, cur, done => if c = 46 then splitR (x :: r) [] (done ++ [cur]) else if c = 92 then splitR r (cur ++ [92, x]) done else splitR (x :: r) (cur ++ [c]) done
theorem splitR_dot (r cur : List UInt8) (done : List (List UInt8)) : splitR (46 :: r) cur done = splitR r [] (done ++ [cur]) := by
  cases r <;> simp [splitR]
theorem splitR_stroke (x : UInt8) (r cur : List UInt8) (done : List (List UInt8)) : splitR (92 :: x :: r) cur done = splitR r (cur ++ [92, x]) done := by
  simp [splitR]
theorem splitR_stroke_end (cur : List UInt8) (done : List (List UInt8)) : splitR [92] cur done = ([], 2) := by
  simp [splitR]
theorem splitR_other {c : UInt8} (h1 : c ≠ 46) (h2 : c ≠ 92) (r cur : List UInt8) (done : List (List UInt8)) : splitR (c :: r) cur done = splitR r (cur ++ [c]) done := by
  cases r <;> simp [splitR, h1, h2]

theorem spRun_at (l : List UInt8) : (spRun l).at' = l.length := (spRun_inv l).1
theorem piece_pre (pre rest : List UInt8) (a b : Nat) (hb : b ≤ pre.length) : piece (pre ++ rest) (a, b) = piece pre (a, b) := by
  unfold piece; simp only; rw [List.take_append_of_le_length hb]
theorem spRun_parts_le (l : List UInt8) : ∀ p ∈ (spRun l).parts, p.2 ≤ l.length := by
  suffices h : ∀ (l : List UInt8) (t : SpSt) (n : Nat), t.at' = n → (∀ p ∈ t.parts, p.2 ≤ n) → ∀ p ∈ (l.foldl spStep t).parts, p.2 ≤ n + l.length by
    have := h l ⟨0, 0, false, []⟩ 0 rfl (by simp)
    unfold spRun; simpa using this
  intro l
  induction l with
  | nil => intro t n h1 h2; simpa using h2
  | cons c l ih =>
    intro t n h1 h2
    have := ih (spStep t c) (n + 1) (by unfold spStep; split <;> (try split) <;> (try split) <;> simp [h1]) (by
      intro p hp
      unfold spStep at hp
      split at hp
      · have := h2 p hp; omega
      · split at hp
        · have := h2 p hp; omega
        · split at hp
          · simp only [List.mem_append, List.mem_singleton] at hp
            rcases hp with hp | rfl
            · have := h2 p hp; omega
            · simp; omega
          · have := h2 p hp; omega)
    simp only [List.foldl_cons, List.length_cons]
    intro p hp
    have := this p hp
    omega

theorem splitM_rest : ∀ (n : Nat) (rest pre : List UInt8), rest.length ≤ n → (spRun pre).taken = false →
    splitM (pre ++ rest) = splitR rest (pre.drop (spRun pre).start) ((spRun pre).parts.map (piece pre)) := by
  intro n
  induction n with
  | zero =>
    intro rest pre hn ht
    obtain rfl : rest = [] := List.eq_nil_of_length_eq_zero (by omega)
    rw [List.append_nil]
    unfold splitM splitR
    rw [if_neg (by simp [ht])]
  | succ n ih =>
    intro rest pre hn ht
    have hst := (spRun_inv pre).2.1
    have hparts : ∀ (x : UInt8) (q : List UInt8), (spRun pre).parts.map (piece (pre ++ x :: q)) = (spRun pre).parts.map (piece pre) := by
      intro x q
      apply List.map_congr_left
      intro p hp
      exact piece_pre pre _ p.1 p.2 (spRun_parts_le pre p hp)
    match rest with
    | [] =>
      rw [List.append_nil]
      unfold splitM splitR
      rw [if_neg (by simp [ht])]
    | c :: r =>
      by_cases h1 : c = 46
      · subst h1
        have e : spRun (pre ++ [46]) = ⟨(spRun pre).at' + 1, (spRun pre).at' + 1, false, (spRun pre).parts ++ [((spRun pre).start, (spRun pre).at')]⟩ := by
          rw [spRun_snoc]; exact spStep_dot ht (by decide)
        have := ih r (pre ++ [46]) (by simp at hn; omega) (by rw [e])
        rw [List.append_assoc] at this
        rw [show pre ++ 46 :: r = pre ++ ([46] ++ r) from rfl, this, splitR_dot, e]
        simp only [List.map_append, List.map_cons, List.map_nil, spRun_at]
        rw [hparts 46 [], List.drop_eq_nil_of_le (by simp)]
        congr 2
        unfold piece
        simp
      · by_cases h2 : c = 92
        · subst h2
          match r with
          | [] =>
            have e : (spRun (pre ++ [92])).taken = true := by rw [spRun_snoc, spStep_stroke ht (by decide)]
            rw [splitR_stroke_end]
            unfold splitM
            rw [if_pos e]
          | x :: r =>
            have e1 : spRun (pre ++ [92]) = ⟨(spRun pre).at' + 1, (spRun pre).start, true, (spRun pre).parts⟩ := by rw [spRun_snoc]; exact spStep_stroke ht (by decide)
            have e : spRun (pre ++ [92] ++ [x]) = ⟨(spRun pre).at' + 1 + 1, (spRun pre).start, false, (spRun pre).parts⟩ := by rw [spRun_snoc, spStep_taken (by rw [e1]), e1]
            have := ih r (pre ++ [92] ++ [x]) (by simp at hn; omega) (by rw [e])
            rw [show pre ++ 92 :: x :: r = pre ++ [92] ++ [x] ++ r by simp, this, splitR_stroke, e]
            simp only
            rw [show pre ++ [92] ++ [x] = pre ++ 92 :: [x] by simp, hparts 92 [x], List.drop_append_of_le_length hst]
        · have e : spRun (pre ++ [c]) = ⟨(spRun pre).at' + 1, (spRun pre).start, false, (spRun pre).parts⟩ := by
            rw [spRun_snoc]; unfold spStep; simp [ht, h1, h2]
          have := ih r (pre ++ [c]) (by simp at hn; omega) (by rw [e])
          rw [show pre ++ c :: r = pre ++ [c] ++ r by simp, this, splitR_other h1 h2, e]
          simp only
          rw [hparts c [], List.drop_append_of_le_length hst]

theorem splitM_eq (s : List UInt8) : splitM s = splitR s [] [] := by
  have := splitM_rest s.length s [] (Nat.le_refl _) rfl
  simpa [spRun] using this

theorem splitR_octet (c : UInt8) (r cur : List UInt8) (done : List (List UInt8)) : splitR (octetW c ++ r) cur done = splitR r (cur ++ octetW c) done := by
  have hc := c.toNat_lt
  by_cases hsp : specialU c = true
  · rw [octetW_special hsp]; exact splitR_stroke c r cur done
  · have hsp0 : specialU c = false := by simpa using hsp
    have s1 : ¬ (c.toNat = 46 ∨ c.toNat = 92 ∨ c.toNat = 34 ∨ c.toNat = 40 ∨ c.toNat = 41 ∨ c.toNat = 59 ∨ c.toNat = 64 ∨ c.toNat = 36) := of_decide_eq_false hsp0
    by_cases hpl : 33 ≤ (c.toNat : Int) ∧ (c.toNat : Int) ≤ 126
    · rw [octetW_plain hsp0 hpl.1 hpl.2]
      have e1 : c ≠ 46 := by intro e; subst e; simp at s1
      have e2 : c ≠ 92 := by intro e; subst e; simp at s1
      exact splitR_other e1 e2 r cur done
    · rw [octetW_esc hsp0 (by omega)]
      have e2 : (48 + c / 10 % 10 : UInt8).toNat = 48 + c.toNat / 10 % 10 := by rw [UInt8.toNat_add, UInt8.toNat_mod, UInt8.toNat_div]; simp only [UInt8.reduceToNat]; omega
      have e3 : (48 + c % 10 : UInt8).toNat = 48 + c.toNat % 10 := by rw [UInt8.toNat_add, UInt8.toNat_mod]; simp only [UInt8.reduceToNat]; omega
      have n1 : ∀ x : UInt8, 48 ≤ x.toNat → x.toNat ≤ 57 → x ≠ 46 ∧ x ≠ 92 := by
        intro x h1 h2; constructor <;> (intro e; subst e; simp at h1 h2)
      have d2 := n1 (48 + c / 10 % 10) (by omega) (by omega)
      have d3 := n1 (48 + c % 10) (by omega) (by omega)
      unfold octetEsc
      simp only [List.cons_append, List.nil_append]
      rw [splitR_stroke, splitR_other d2.1 d2.2, splitR_other d3.1 d3.2]
      simp
theorem splitR_text : ∀ (l r cur : List UInt8) (done : List (List UInt8)), splitR (textL l ++ r) cur done = splitR r (cur ++ textL l) done
  | [], r, cur, done => by simp [textL]
  | c :: l, r, cur, done => by
    rw [textL_cons, List.append_assoc, splitR_octet, splitR_text l]; simp

/-- Labels in words, dots between. -/
def joinL : List (List UInt8) → List UInt8
  | [] => []
  | x :: xs => textL x ++ xs.flatMap fun y => 46 :: textL y
theorem joinL_snoc {xs : List (List UInt8)} (h : xs ≠ []) (y : List UInt8) : joinL (xs ++ [y]) = joinL xs ++ [46] ++ textL y := by
  cases xs with
  | nil => exact absurd rfl h
  | cons x xs => simp [joinL]
theorem splitR_joined : ∀ (xs : List (List UInt8)) (cur : List UInt8) (done : List (List UInt8)), splitR (xs.flatMap fun y => 46 :: textL y) cur done = (done ++ [cur] ++ xs.map textL, 0)
  | [], cur, done => by simp [splitR]
  | x :: xs, cur, done => by
    rw [List.flatMap_cons, List.cons_append, splitR_dot, splitR_text, splitR_joined xs]; simp
theorem split_join {xs : List (List UInt8)} (h : xs ≠ []) : splitM (joinL xs) = (xs.map textL, 0) := by
  cases xs with
  | nil => exact absurd rfl h
  | cons x xs => rw [splitM_eq]; unfold joinL; rw [splitR_text, splitR_joined]; simp
theorem joinL_le : ∀ xs : List (List UInt8), (∀ x ∈ xs, x.length ≤ 63) → (joinL xs).length ≤ 253 * xs.length
  | [], _ => by simp [joinL]
  | x :: xs, h => by
    have h1 := textL_le x
    have h2 := h x (by simp)
    have h3 : ∀ ys : List (List UInt8), (∀ y ∈ ys, y.length ≤ 63) → (ys.flatMap fun y => 46 :: textL y).length ≤ 253 * ys.length := by
      intro ys
      induction ys with
      | nil => simp
      | cons y ys ih =>
        intro hy
        have a1 := textL_le y
        have a2 := hy y (by simp)
        have a3 := ih (fun z hz => hy z (by simp [hz]))
        simp only [List.flatMap_cons, List.length_append, List.length_cons] at a3 ⊢
        omega
    have h4 := h3 xs (fun z hz => h z (by simp [hz]))
    simp only [joinL, List.length_append, List.length_cons] at h4 ⊢
    omega

end Go.Proofs.YtkjmghnbcnbdbaaGreatDoor

/-
  The document's reading of escapes (package toponymref6): Octets, ParseLabel: what label.Parse reads.
-/
namespace Go.Proofs.YtkjmghnbcnbdbaaGreatDoor
set_option maxRecDepth 20000
open Go.RowKit Go.Shelf

section
variable (s : ByteArray) (k : Nat)
theorem rd_dot (h : k < s.size) (h1 : ((s[k].toNat : Int) == 46) = true) : readM (s.data.toList.drop k) = (0, 0, 2) := by
  rw [drop_cons_get s k h]; have : s[k] = 46 := u8_is (n := 46) (by omega) h1
  simp [readM, this]
theorem rd_plain (h : k < s.size) (h1 : ((s[k].toNat : Int) == 46) = false) (h2 : ((s[k].toNat : Int) != 92) = true) : readM (s.data.toList.drop k) = (s[k], 1, 0) := by
  rw [drop_cons_get s k h]; have e1 : s[k] ≠ 46 := u8_isnt (n := 46) (by omega) h1
  have e2 : s[k] ≠ 92 := u8_isnt (n := 92) (by omega) (by simpa using h2)
  simp [readM, e1, e2]
theorem rd_one (h : k < s.size) (h2 : ((s[k].toNat : Int) != 92) = false) (h3 : s.size ≤ k + 1) : readM (s.data.toList.drop k) = (0, 0, 2) := by
  rw [drop_cons_get s k h, u8_92 h2, List.drop_eq_nil_of_le (by rw [size_data]; omega)]; simp [readM]
theorem rd_sign (h : k + 1 < s.size) (h2 : ((s[k].toNat : Int) != 92) = false) (h3 : digitU s[k + 1] = false) : readM (s.data.toList.drop k) = (s[k + 1], 2, 0) := by
  rw [drop_cons_get s k (by omega), drop_cons_get s (k + 1) h, u8_92 h2]; simp [readM, h3]
theorem rd_short (h : k + 1 < s.size) (h2 : ((s[k].toNat : Int) != 92) = false) (h3 : digitU s[k + 1] = true) (h4 : s.size ≤ k + 3) : readM (s.data.toList.drop k) = (0, 0, 2) := by
  rw [drop_cons_get s k (by omega), drop_cons_get s (k + 1) h, u8_92 h2]
  have hl : (s.data.toList.drop (k + 1 + 1)).length < 2 := by rw [List.length_drop, size_data]; omega
  match hd : s.data.toList.drop (k + 1 + 1), hl with
  | [], _ => simp [readM, h3]
  | [_], _ => simp [readM, h3]
theorem drop4 (h : k + 3 < s.size) : s.data.toList.drop k = s[k] :: s[k + 1] :: s[k + 2] :: s[k + 3] :: s.data.toList.drop (k + 4) := by
  rw [drop_cons_get s k (by omega), drop_cons_get s (k + 1) (by omega), drop_cons_get s (k + 2) (by omega), drop_cons_get s (k + 3) (by omega)]
theorem rd_bad (h : k + 3 < s.size) (h2 : ((s[k].toNat : Int) != 92) = false) (h3 : digitU s[k + 1] = true) (h4 : ¬ (digitU s[k + 2] = true ∧ digitU s[k + 3] = true)) : readM (s.data.toList.drop k) = (0, 0, 2) := by
  rw [drop4 s k h, u8_92 h2]; simp only [readM, h3]; simp [h4]
theorem rd_over (h : k + 3 < s.size) (h2 : ((s[k].toNat : Int) != 92) = false) (h3 : digitU s[k + 1] = true) (h4 : digitU s[k + 2] = true) (h5 : digitU s[k + 3] = true)
    (h6 : 255 < ((s[k + 1].toNat : Int) - 48) * 100 + ((s[k + 2].toNat : Int) - 48) * 10 + ((s[k + 3].toNat : Int) - 48)) : readM (s.data.toList.drop k) = (0, 0, 7) := by
  have b1 := digit_bounds h3; have b2 := digit_bounds h4; have b3 := digit_bounds h5
  rw [drop4 s k h, u8_92 h2]; simp only [readM, h3, h4, h5]
  rw [if_pos (by omega : 255 < (s[k + 1].toNat - 48) * 100 + (s[k + 2].toNat - 48) * 10 + (s[k + 3].toNat - 48))]; simp
theorem rd_ok (h : k + 3 < s.size) (h2 : ((s[k].toNat : Int) != 92) = false) (h3 : digitU s[k + 1] = true) (h4 : digitU s[k + 2] = true) (h5 : digitU s[k + 3] = true)
    (h6 : ((s[k + 1].toNat : Int) - 48) * 100 + ((s[k + 2].toNat : Int) - 48) * 10 + ((s[k + 3].toNat : Int) - 48) ≤ 255) :
    ∃ c : UInt8, readM (s.data.toList.drop k) = (c, 4, 0) ∧ (c.toNat : Int) = ((s[k + 1].toNat : Int) - 48) * 100 + ((s[k + 2].toNat : Int) - 48) * 10 + ((s[k + 3].toNat : Int) - 48) := by
  have b1 := digit_bounds h3; have b2 := digit_bounds h4; have b3 := digit_bounds h5
  refine ⟨UInt8.ofNat ((s[k + 1].toNat - 48) * 100 + (s[k + 2].toNat - 48) * 10 + (s[k + 3].toNat - 48)), ?_, ?_⟩
  · rw [drop4 s k h, u8_92 h2]; simp only [readM, h3, h4, h5]
    rw [if_neg (by omega : ¬ 255 < (s[k + 1].toNat - 48) * 100 + (s[k + 2].toNat - 48) * 10 + (s[k + 3].toNat - 48))]; simp
  · rw [UInt8.toNat_ofNat']; omega
end

def OctPost (s : ByteArray) (w : World) (e : Ending) (w' : World) : Prop :=
  e = .returned (.tuple #[.string ⟨(scan s.data.toList).1.toArray⟩, .int .i64 (scan s.data.toList).2]) ∧ Below w.heap.size w w'
theorem oct_fin {s : ByteArray} {w w' : World} {e : Ending} (l : List UInt8) (er : Int) (h : scan s.data.toList = (l, er)) (he : e = .returned (.tuple #[.string ⟨l.toArray⟩, .int .i64 er])) (hw : Below w.heap.size w w') : OctPost s w e w' := by
  unfold OctPost; rw [h]; exact ⟨he, hw⟩
theorem drop_ne (s : ByteArray) (k : Nat) (h : k < s.size) : s.data.toList.drop k ≠ [] := by
  intro e; have := congrArg List.length e; rw [List.length_drop, size_data] at this; simp at this; omega
theorem oct_err {s : ByteArray} {k : Nat} {xs : List UInt8} {er : Int} {c : UInt8} {z : Nat} (hJ : scan s.data.toList = join xs (scan (s.data.toList.drop k))) (hk : k < s.size) (hr : readM (s.data.toList.drop k) = (c, z, er)) (he : er ≠ 0) :
    scan s.data.toList = ([], er) := by
  rw [hJ, scan_err (drop_ne s k hk) (by rw [hr]; exact he), hr]; unfold join; rw [if_neg he]
theorem oct_next {s : ByteArray} {k : Nat} {xs : List UInt8} {c : UInt8} {z : Nat} (hJ : scan s.data.toList = join xs (scan (s.data.toList.drop k))) (hk : k < s.size) (hr : readM (s.data.toList.drop k) = (c, z, 0)) :
    scan s.data.toList = join (xs ++ [c]) (scan (s.data.toList.drop (k + z))) := by
  rw [hJ, scan_ok (drop_ne s k hk) (by rw [hr]), hr, join_join, List.drop_drop]

theorem scanM_len : ∀ (n : Nat) (l : List UInt8), l.length ≤ n → (scan l).1.length ≤ l.length := by
  intro n
  induction n with
  | zero => intro l h; obtain rfl : l = [] := List.eq_nil_of_length_eq_zero (by omega); simp [scan_nil]
  | succ n ih =>
    intro l h
    by_cases h0 : l = []
    · subst h0; simp [scan_nil]
    by_cases h1 : (readM l).2.2 = 0
    · have hs := readM_size h0 h1
      rw [scan_ok h0 h1]
      unfold join
      have h2 := ih (l.drop (readM l).2.1) (by rw [List.length_drop]; omega)
      rw [List.length_drop] at h2
      split
      · simp; omega
      · simp
    · rw [scan_err h0 h1]; simp

end Go.Proofs.YtkjmghnbcnbdbaaGreatDoor

/-
  The document's parting of a text (package toponymref6): Split: the parts that label.Split tells.
-/
namespace Go.Proofs.YtkjmghnbcnbdbaaGreatDoor
set_option maxRecDepth 20000
open Go.RowKit Go.Shelf

def RSplitPost (s : ByteArray) (w : World) (e : Ending) (w' : World) : Prop :=
  ∃ v, e = .returned (.tuple #[v, .int .i64 (splitM s.data.toList).2]) ∧ OwnG 9 strV w' w.heap.size v (splitM s.data.toList).1 ∧ Below w.heap.size w w'
theorem rsplit_fin {s : ByteArray} {w w' : World} {e : Ending} {v : Value} (l : List (List UInt8)) (er : Int) (h : splitM s.data.toList = (l, er)) (he : e = .returned (.tuple #[v, .int .i64 er])) (ho : OwnG 9 strV w' w.heap.size v l) (hw : Below w.heap.size w w') : RSplitPost s w e w' := by
  unfold RSplitPost; rw [h]; exact ⟨v, he, ho, hw⟩

theorem set_last (done : List (List UInt8)) (cur y : List UInt8) : (done ++ [cur]).set done.length y = done ++ [y] := by
  rw [List.set_append_right _ _ (Nat.le_refl _)]; simp
theorem get_last (done : List (List UInt8)) (cur : List UInt8) (h : done.length < (done ++ [cur]).length) : (done ++ [cur])[done.length] = cur := by simp
theorem extract_two (s : ByteArray) (k : Nat) (h : k + 1 < s.size) : s.extract k (k + 2) = ⟨#[s[k], s[k + 1]]⟩ := by
  apply ba_ext
  have h1 : (s.extract k (k + 2)).data.toList = (s.data.toList.take (k + 2)).drop k := by simp [ByteArray.data_extract, List.drop_take]
  rw [h1, take_snoc_get s (k + 1) h, take_snoc_get s k (by omega), List.append_assoc, List.drop_left' (by simp; omega)]; rfl

end Go.Proofs.YtkjmghnbcnbdbaaGreatDoor

/-
  Inside a fence: a region that draws its order, whose first n operations only read and whose others wait for all of them and for one another (a yield at its end, ..): one walk of the text's order serves. The kit's StillTail, over QuietThIn's laws.
-/
namespace Go.Proofs.YtkjmghnbcnbdbaaGreatDoor
open Go.RowKit Go.Shelf

section
variable {F : Fence} {d : Nat} {P : Program} {ops : Array Oper} {md : Region.Mode} {C : World → Prop}

def wpAnyLIn (F : Fence) (d : Nat) (P : Program) (md : Region.Mode) (ops : Array Oper) (C : World → Prop) (n : Nat) (L : Array Bool → Act → Prop) : Nat → Array Bool → Act → Prop
  | 0, listed, a => L listed a
  | f + 1, listed, a =>
    Region.ready md ops listed ≠ [] ∧ ∀ i ∈ Region.ready md ops listed, i < n ∧ qOpIn F d P ops C i (wpAnyLIn F d P md ops C n L f (listed.setIfInBounds i true)) a

theorem wpAnyIn_of_head {n g : Nat} {L : Array Bool → Act → Prop} {Q' : Exit → Act → World → Prop} (hro : F.round = none) (hL : ∀ listed a w, C w → L listed a → wpAnyIn F d P md ops Q' g listed a w) :
    ∀ (f : Nat) (listed : Array Bool) (a : Act) (w : World), C w → wpAnyLIn F d P md ops C n L f listed a → wpAnyIn F d P md ops Q' (f + g) listed a w
  | 0, listed, a, w, hw, h => by rw [Nat.zero_add]; exact hL _ _ _ hw h
  | f + 1, listed, a, w, hw, h => by
    rw [show f + 1 + g = (f + g) + 1 by omega]
    exact ⟨fun h0 => absurd h0 h.1, fun i hi => wpOpIn_of_qOpIn hro hw (fun a' w' hw' h' => wpAnyIn_of_head hro hL f _ a' w' hw' h') (h.2 i hi).2⟩

theorem wpAnyLIn_first {n i : Nat} {oi : Oper} {v : Value} {L : Array Bool → Act → Prop} (hi : ops[i]? = some oi) (hsel : ∀ (j : Nat) (o : Oper) cs b, ops[j]? = some o → o.op ≠ .select cs b)
    (hs : Region.sinkB md ops n = true) (hc : Region.chainB md ops n = true) (hn : n < ops.size) (hin : i < n)
    (hdone : ∀ listed a, L listed a → ∀ j ∈ Region.ready md ops listed, n ≤ j) :
    ∀ (f : Nat) (listed : Array Bool) (a : Act), HeadInv md ops n listed →
      (∀ j oj, ops[j]? = some oj → j ≠ i → listed.getD j true = false → (∀ e ∈ oj.after, Region.binds md e = true → e.on ≠ i) → oi.apart ops oj = true) →
      i ∈ Region.ready md ops listed → YieldsQuiet F d P ops C oi v a →
      wpAnyLIn F d P md ops C n L f (listed.setIfInBounds i true) (a.put oi.dst v) → wpAnyLIn F d P md ops C n L (f + 1) listed a := by
  intro f
  induction f with
  | zero =>
    intro listed a inv _ hr hy H
    have hun := (mem_ready.1 hr).1
    refine ⟨fun h => (by rw [h] at hr; cases hr), fun j hj => ?_⟩
    have hjn : j < n := by
      rcases Nat.lt_or_ge j n with h | h
      · exact h
      · exact absurd hj (tail_waits hs hc hn inv _ i rfl hin hun j h)
    refine ⟨hjn, ?_⟩
    by_cases hji : j = i
    · subst hji; exact hy.qOpIn hi H
    · have := hdone _ _ H j (ready_mono hj hji)
      omega
  | succ f ih =>
    intro listed a inv hfree hr hy H
    have hun := (mem_ready.1 hr).1
    refine ⟨fun h => (by rw [h] at hr; cases hr), fun j hj => ?_⟩
    have hjn : j < n := by
      rcases Nat.lt_or_ge j n with h | h
      · exact h
      · exact absurd hj (tail_waits hs hc hn inv _ i rfl hin hun j h)
    refine ⟨hjn, ?_⟩
    by_cases hji : j = i
    · subst hji; exact hy.qOpIn hi H
    · have h1 := (H.2 j (ready_mono hj hji)).2
      obtain ⟨hjun, oj, hoj, hall⟩ := mem_ready.1 hj
      have hnot : ∀ e ∈ oj.after, Region.binds md e = true → e.on ≠ i := fun e he hb heq => by
        have h1 := hall e he hb
        rw [heq, getD_both hun] at h1
        cases h1
      have h2 := qOpIn_put hoj (hfree j oj hoj hji hjun hnot) (fun cs b => hsel i oi cs b hi) (fun cs b => hsel j oj cs b hoj) hy h1
      have hfree' : ∀ k ok, ops[k]? = some ok → k ≠ i → (listed.setIfInBounds j true).getD k true = false →
          (∀ e ∈ ok.after, Region.binds md e = true → e.on ≠ i) → oi.apart ops ok = true := fun k ok hk hki hun hno => by
        refine hfree k ok hk hki ?_ hno
        by_cases hjk : j = k
        · subst hjk; exact hjun
        · rw [getD_set_ne true hjk] at hun; exact hun
      refine qOpIn_mono (fun a' h3 => ih (listed.setIfInBounds j true) a' (inv.set hj hjn) hfree' (ready_mono hr (Ne.symm hji)) h3.1 ?_) h2
      rw [Array.setIfInBounds_comm _ _ hji]
      exact h3.2

theorem wpAnyIn_of_seq {Q' : Exit → Act → World → Prop} : ∀ (l : List Oper) (k : Nat) (listed : Array Bool) (a : Act) (w : World), (∀ j, l[j]? = ops[k + j]?) →
    Region.seqB md ops l.length k listed = true → wpListIn F d P ops Q' l a w → wpAnyIn F d P md ops Q' l.length listed a w
  | [], _, _, _, _, _, hB, h => ⟨by simpa [Region.seqB] using hB, h⟩
  | o :: l, k, listed, a, w, hl, hB, h => by
    have h0 : ops[k]? = some o := by simpa using (hl 0).symm
    simp only [List.length_cons, Region.seqB, Bool.and_eq_true, decide_eq_true_eq] at hB
    refine ⟨fun h1 => (by rw [hB.1] at h1; cases h1), fun i hi => ?_⟩
    rw [hB.1] at hi
    have hik : i = k := by simpa using hi
    subst hik
    have hw : wpOpIn F d P ops Q' i (wpListIn F d P ops Q' l) a w := by unfold wpOpIn; simp only [h0]; exact h
    exact wpOpIn_mono (fun a' w' h' => wpAnyIn_of_seq l (i + 1) _ a' w' (fun j => by have := hl (j + 1); simpa [Nat.add_assoc, Nat.add_comm 1 j] using this) hB.2 h') hw

theorem wpAnyLIn_lex {n g : Nat} {Lq : Act → Prop} (hsel : Region.noSelect ops = true) (hs : Region.sinkB md ops n = true) (hc : Region.chainB md ops n = true) (hn : n < ops.size) :
    ∀ (l : List Oper) (k : Nat) (listed : Array Bool) (a : Act), (∀ j, j < l.length → l[j]? = ops[k + j]?) → k + l.length = n → HeadInv md ops n listed →
    Region.lexHead md ops g l.length k listed = true → wpQuietIn F d P ops C Lq l a →
    wpAnyLIn F d P md ops C n (fun listed' a' => Region.seqB md ops g n listed' = true ∧ Lq a') l.length listed a
  | [], k, listed, a, _, hk, _, hB, h => by
    have : k = n := by simpa using hk
    subst this
    exact ⟨by simpa [Region.lexHead] using hB, h⟩
  | o :: l, k, listed, a, hl, hk, inv, hB, h => by
    have h0 : ops[k]? = some o := by simpa using (hl 0 (by simp)).symm
    simp only [List.length_cons, Region.lexHead, Bool.and_eq_true] at hB
    obtain ⟨⟨hr, hf⟩, hB'⟩ := hB
    have hkn : k < n := by simp only [List.length_cons] at hk; omega
    have hr' : k ∈ Region.ready md ops listed := by simpa using hr
    have hst : qOpIn F d P ops C k (wpQuietIn F d P ops C Lq l) a := by unfold qOpIn; simp only [h0]; exact h
    obtain ⟨v, hy, hK⟩ := yieldsQuiet_of_qOpIn h0 hst
    exact wpAnyLIn_first h0 (Region.noSelect_spec hsel) hs hc hn hkn (fun listed' a' hL => seqB_ready hL.1) l.length listed a inv (Region.free_spec h0 hf) hr' hy
      (wpAnyLIn_lex hsel hs hc hn l (k + 1) _ _ (fun j hj => by have := hl (j + 1) (by simp; omega); simpa [Nat.add_assoc, Nat.add_comm 1 j] using this) (by simp only [List.length_cons] at hk; omega) (inv.set hr' hkn) hB' hK)

theorem wpIn_region_tail {id : Nat} {Q : Exit → Act → World → Prop} {a : Act} {w : World} {l : List Oper} (n : Nat) (hro : F.round = none) (hm : P.follows .mixedOrders = true) (hB : Region.lexTailB .any l.toArray n = true)
    (h : wpQuietIn F d P l.toArray (fun w' => ∃ n, w' = w.drewN n) (fun a' => ∀ w', (∃ n, w' = w.drewN n) → wpListIn F d P l.toArray Q (l.drop n) a' w') (l.take n) a) : (Code.region id l.toArray true).wpIn F d P Q a w := by
  simp only [Region.lexTailB, Bool.and_eq_true, decide_eq_true_eq] at hB
  obtain ⟨⟨⟨⟨hsel, hn⟩, hs⟩, hc⟩, hlex⟩ := hB
  have hn' : n < l.length := by simpa using hn
  have htl : (l.take n).length = n := by simp; omega
  have hdl : (l.drop n).length = l.toArray.size - n := by simp
  have inv0 : HeadInv .any l.toArray n (Array.replicate l.toArray.size false) :=
    ⟨by simp, fun j oj _ hl => (by rw [getD_replicate_false] at hl; cases hl), fun t _ ht => getD_in (by simpa using ht) (getD_replicate_false _ _)⟩
  have H := wpAnyLIn_lex (md := .any) (g := l.toArray.size - n) hsel hs hc hn (l.take n) 0 _ a (fun j hj => by
    have hj' : j < n := by rw [htl] at hj; exact hj
    simp [hj']) (by simpa using htl) inv0 (by rw [htl]; exact hlex) h
  refine wpIn_region_any hm ?_
  have := wpAnyIn_of_head (Q' := Q) (g := l.toArray.size - n) hro (fun listed a' w' hw' hL => by
    have := wpAnyIn_of_seq (md := .any) (Q' := Q) (l.drop n) n listed a' w' (fun j => by simp [List.getElem?_drop]) (by rw [hdl]; exact hL.1) (hL.2 w' hw')
    rwa [hdl] at this) _ _ _ ({ w with drawn := w.drawn + 1 }) ⟨1, rfl⟩ H
  rw [htl, show n + (l.toArray.size - n) = l.toArray.size by omega] at this
  exact this

end
end Go.Proofs.YtkjmghnbcnbdbaaGreatDoor

/-
  Names as lists of labels: reading a name (plain facts).
-/
namespace Go.Proofs.YtkjmghnbcnbdbaaGreatDoor
set_option maxRecDepth 20000
open Go.RowKit Go.Shelf

def readN : Nm → Nm × Int
  | [] => ([], 0)
  | p :: r => if (parseM p).2 = 0 then (if (readN r).2 = 0 then ((parseM p).1 :: (readN r).1, 0) else ([], (readN r).2)) else ([], (parseM p).2)
/-- Is there a dot at the end? -/
def wholeN (ps : Nm) : Bool := decide (ps.getLast? = some [])
def partsN (ps : Nm) : Nm := if wholeN ps then ps.dropLast else ps
def endN (ps : Nm) (o : Nm) : Nm × Int :=
  if (readN (partsN ps)).2 = 0 then
    (if checkN (if wholeN ps then (readN (partsN ps)).1 else (readN (partsN ps)).1 ++ o) = 0 then (if wholeN ps then (readN (partsN ps)).1 else (readN (partsN ps)).1 ++ o, 0)
     else ([], checkN (if wholeN ps then (readN (partsN ps)).1 else (readN (partsN ps)).1 ++ o)))
  else ([], (readN (partsN ps)).2)
def parseN (s : List UInt8) (o : Nm) : Nm × Int :=
  if s = [64] then (o, 0) else if s = [46] then ([], 0) else if s = [] then ([], 8)
  else if (splitM s).2 = 0 then endN (splitM s).1 o else ([], (splitM s).2)

theorem readN_snoc (a : Nm) (x : List UInt8) (h : (readN a).2 = 0) : readN (a ++ [x]) = if (parseM x).2 = 0 then ((readN a).1 ++ [(parseM x).1], 0) else ([], (parseM x).2) := by
  induction a with
  | nil => simp only [List.nil_append, readN]; split <;> simp
  | cons p r ih =>
    simp only [List.cons_append, readN] at h ⊢
    by_cases e : (parseM p).2 = 0
    · rw [if_pos e] at h ⊢
      by_cases e2 : (readN r).2 = 0
      · rw [if_pos e, if_pos e2, ih e2]
        split <;> simp_all
      · rw [if_neg e2] at h; exact absurd h e2
    · rw [if_neg e] at h; exact absurd h e
theorem readN_stop {a p : Nm} (h : p <+: a) (hp : (readN p).2 ≠ 0) : readN a = ([], (readN p).2) := by
  obtain ⟨t, rfl⟩ := h
  induction p with
  | nil => simp [readN] at hp
  | cons x r ih =>
    simp only [List.cons_append, readN] at hp ⊢
    by_cases e : (parseM x).2 = 0
    · rw [if_pos e] at hp ⊢; rw [if_pos e]
      by_cases e2 : (readN r).2 = 0
      · rw [if_pos e2] at hp; simp at hp
      · have := ih e2; rw [this, if_neg e2, if_neg e2]
    · rw [if_neg e, if_neg e]
theorem checkL_mem {n : Nm} (h : checkL n = 0) : ∀ x ∈ n, checkLabelM x = 0 := by
  induction n with
  | nil => simp
  | cons y r ih =>
    simp only [checkL] at h
    by_cases e : checkLabelM y = 0
    · rw [if_pos e] at h; intro x hx; rcases List.mem_cons.1 hx with rfl | hx
      · exact e
      · exact ih h x hx
    · rw [if_neg e] at h; exact absurd h e
theorem checkN_L {n : Nm} (h : checkN n = 0) : checkL n = 0 := by
  unfold checkN at h; by_cases e : checkL n = 0
  · exact e
  · rw [if_neg e] at h; exact h
theorem checkLabelM_ok {l : List UInt8} (h : checkLabelM l = 0) : l ≠ [] ∧ l.length ≤ 63 := by
  unfold checkLabelM at h
  by_cases e : l = []
  · rw [if_pos e] at h; cases h
  · rw [if_neg e] at h
    by_cases e2 : 63 < l.length
    · rw [if_pos e2] at h; cases h
    · exact ⟨e, by omega⟩
theorem readN_text {n : Nm} (h : checkL n = 0) : readN (n.map textL) = (n, 0) := by
  induction n with
  | nil => rfl
  | cons x r ih =>
    have hx := checkL_mem h x (by simp)
    have hr : checkL r = 0 := by simp only [checkL] at h; rw [if_pos hx] at h; exact h
    have hp : parseM (textL x) = (x, 0) := by rw [parse_text, if_pos hx]
    simp only [List.map_cons, readN, hp, ih hr, if_true]
theorem joinL_flat : ∀ (n : Nm), n ≠ [] → joinL (n ++ [[]]) = n.flatMap fun x => textL x ++ [46] := by
  intro n hn
  rw [joinL_snoc hn]
  show joinL n ++ [46] ++ textL [] = _
  have ht : textL [] = [] := rfl
  rw [ht, List.append_nil]
  induction n with
  | nil => exact absurd rfl hn
  | cons x r ih =>
    by_cases hr : r = []
    · subst hr; simp [joinL]
    · have := ih hr
      rw [List.flatMap_cons, ← this]
      cases r with
      | nil => exact absurd rfl hr
      | cons y t => simp [joinL, List.append_assoc]

end Go.Proofs.YtkjmghnbcnbdbaaGreatDoor

/-
  Where two names part, from the root's side on (plain facts).
-/
namespace Go.Proofs.YtkjmghnbcnbdbaaGreatDoor
set_option maxRecDepth 20000
open Go.RowKit Go.Shelf

theorem cmpR_get : ∀ (k : Nat) (p q : Nm), k ≤ p.length → k ≤ q.length → (∀ i (h1 : i < p.length) (h2 : i < q.length), i < k → compareM p[i] q[i] = 0) → cmpR p q = cmpR (p.drop k) (q.drop k)
  | 0, _, _ => by intro _ _ _; rfl
  | k + 1, [], _ => by intro h _ _; simp at h
  | k + 1, _ :: _, [] => by intro _ h _; simp at h
  | k + 1, x :: r, y :: t => by
    intro h1 h2 h
    have h0 : compareM x y = 0 := h 0 (by simp) (by simp) (by omega)
    rw [cmpR, if_pos h0]
    exact cmpR_get k r t (by simpa using h1) (by simpa using h2) (fun i a b c => h (i + 1) (by simpa using a) (by simpa using b) (by omega))
theorem sharedR_get : ∀ (k : Nat) (p q : Nm), k ≤ p.length → k ≤ q.length → (∀ i (h1 : i < p.length) (h2 : i < q.length), i < k → compareM p[i] q[i] = 0) → sharedR p q = k + sharedR (p.drop k) (q.drop k)
  | 0, _, _ => by intro _ _ _; simp
  | k + 1, [], _ => by intro h _ _; simp at h
  | k + 1, _ :: _, [] => by intro _ h _; simp at h
  | k + 1, x :: r, y :: t => by
    intro h1 h2 h
    have h0 : compareM x y = 0 := h 0 (by simp) (by simp) (by omega)
    rw [sharedR, if_pos h0]
    have := sharedR_get k r t (by simpa using h1) (by simpa using h2) (fun i a b c => h (i + 1) (by simpa using a) (by simpa using b) (by omega))
    simp only [List.drop_succ_cons]; omega

variable {xs ys : Nm}
/-- All that is at hand, from x on, is alike. -/
theorem rev_alike {m : Nat} (hm : m ≤ xs.length) (_hy : xs.length ≤ m + ys.length) (h : ∀ j (h1 : j < xs.length) (h2 : xs.length ≤ j + ys.length), m ≤ j → compareM xs[j] (ys[j + ys.length - xs.length]'(by omega)) = 0) :
    ∀ i (h1 : i < xs.reverse.length) (h2 : i < ys.reverse.length), i < xs.length - m → compareM xs.reverse[i] ys.reverse[i] = 0 := by
  intro i h1 h2 hi
  simp only [List.length_reverse] at h1 h2
  have := h (xs.length - 1 - i) (by omega) (by omega) (by omega)
  simp only [List.getElem_reverse]
  have e : ys.length - 1 - i = xs.length - 1 - i + ys.length - xs.length := by omega
  simp only [e]
  exact this
theorem compareN_even (h : ∀ j (h1 : j < xs.length) (h2 : xs.length ≤ j + ys.length), compareM xs[j] (ys[j + ys.length - xs.length]'(by omega)) = 0) :
    compareN xs ys = cmpI xs.length ys.length := by
  have e := cmpR_get (xs.length - (xs.length - ys.length)) xs.reverse ys.reverse (by simp) (by simp; omega) (rev_alike (by omega) (by omega) (fun j h1 h2 _ => h j h1 h2))
  unfold compareN; rw [e]
  rcases Nat.lt_trichotomy xs.length ys.length with hl | hl | hl
  · have e1 : xs.reverse.drop (xs.length - (xs.length - ys.length)) = [] := List.drop_eq_nil_of_le (by simp; omega)
    rw [e1]
    have e2 : ys.reverse.drop (xs.length - (xs.length - ys.length)) ≠ [] := by intro q; have := congrArg List.length q; simp at this; omega
    cases hq : ys.reverse.drop (xs.length - (xs.length - ys.length)) with
    | nil => exact absurd hq e2
    | cons y t => unfold cmpI; rw [if_pos (by omega)]; rfl
  · have e1 : xs.reverse.drop (xs.length - (xs.length - ys.length)) = [] := List.drop_eq_nil_of_le (by simp; omega)
    have e2 : ys.reverse.drop (xs.length - (xs.length - ys.length)) = [] := List.drop_eq_nil_of_le (by simp; omega)
    rw [e1, e2]; unfold cmpI; rw [if_neg (by omega), if_neg (by omega)]; rfl
  · have e1 : ys.reverse.drop (xs.length - (xs.length - ys.length)) = [] := List.drop_eq_nil_of_le (by simp; omega)
    rw [e1]
    have e2 : xs.reverse.drop (xs.length - (xs.length - ys.length)) ≠ [] := by intro q; have := congrArg List.length q; simp at this; omega
    cases hq : xs.reverse.drop (xs.length - (xs.length - ys.length)) with
    | nil => exact absurd hq e2
    | cons y t => unfold cmpI; rw [if_neg (by omega), if_pos (by omega)]; rfl
theorem rev_drop {l : Nm} {x : Nat} (h : x < l.length) : ∃ t, l.reverse.drop (l.length - 1 - x) = l[x] :: t := by
  refine ⟨l.reverse.drop (l.length - 1 - x + 1), ?_⟩
  rw [List.drop_eq_getElem_cons (by simp; omega)]
  congr 1
  simp only [List.getElem_reverse]
  congr 1; omega
theorem compareN_at (x : Nat) (h1 : x < xs.length) (h2 : xs.length ≤ x + ys.length) (hne : compareM xs[x] (ys[x + ys.length - xs.length]'(by omega)) ≠ 0)
    (h : ∀ j (h1 : j < xs.length) (h2 : xs.length ≤ j + ys.length), x < j → compareM xs[j] (ys[j + ys.length - xs.length]'(by omega)) = 0) :
    compareN xs ys = compareM xs[x] (ys[x + ys.length - xs.length]'(by omega)) := by
  have e := cmpR_get (xs.length - (x + 1)) xs.reverse ys.reverse (by simp) (by simp; omega) (rev_alike (by omega) (by omega) (fun j a b c => h j a b (by omega)))
  unfold compareN; rw [e]
  obtain ⟨t, ht⟩ := rev_drop h1
  obtain ⟨r, hr⟩ := rev_drop (l := ys) (x := x + ys.length - xs.length) (by omega)
  rw [show xs.length - (x + 1) = xs.length - 1 - x by omega, ht, show xs.length - 1 - x = ys.length - 1 - (x + ys.length - xs.length) by omega, hr, cmpR, if_neg hne]
theorem shared_at (x : Nat) (h1 : x < xs.length) (h2 : xs.length ≤ x + 1 + ys.length) (hne : ∀ h2 : xs.length ≤ x + ys.length, compareM xs[x] (ys[x + ys.length - xs.length]'(by omega)) ≠ 0)
    (h : ∀ j (h1 : j < xs.length) (h2 : xs.length ≤ j + ys.length), x < j → compareM xs[j] (ys[j + ys.length - xs.length]'(by omega)) = 0) :
    sharedR xs.reverse ys.reverse = xs.length - 1 - x := by
  have e := sharedR_get (xs.length - (x + 1)) xs.reverse ys.reverse (by simp) (by simp; omega) (rev_alike (by omega) (by omega) (fun j a b c => h j a b (by omega)))
  rw [e]
  obtain ⟨t, ht⟩ := rev_drop h1
  rw [show xs.length - (x + 1) = xs.length - 1 - x by omega, ht]
  by_cases hy : xs.length ≤ x + ys.length
  · obtain ⟨r, hr⟩ := rev_drop (l := ys) (x := x + ys.length - xs.length) (by omega)
    rw [show ys.reverse.drop (xs.length - 1 - x) = ys[x + ys.length - xs.length] :: r by rw [← hr]; congr 1; omega, sharedR, if_neg (hne hy)]; rfl
  · rw [show ys.reverse.drop (xs.length - 1 - x) = [] from List.drop_eq_nil_of_le (by simp; omega)]; rfl
theorem shared_all (h2 : xs.length ≤ ys.length) (h : ∀ j (h1 : j < xs.length) (h2 : xs.length ≤ j + ys.length), compareM xs[j] (ys[j + ys.length - xs.length]'(by omega)) = 0) :
    sharedR xs.reverse ys.reverse = xs.length := by
  have e := sharedR_get xs.length xs.reverse ys.reverse (by simp) (by simp; omega) (by
    have := rev_alike (xs := xs) (ys := ys) (m := 0) (by omega) (by omega) (fun j a b c => h j a b)
    simpa using this)
  rw [e, List.drop_eq_nil_of_le (by simp)]; simp [sharedR]

/-- What has come, from the root's side on, up to x. -/
theorem rev_prefix {n : Nat} {p : List (Fin n)} {x : Fin n} (h : (p ++ [x]) <+: (List.finRange n).reverse) : p.length + x.val + 1 = n ∧ ∀ j : Fin n, x.val < j.val → j ∈ p := by
  have hl : p.length + 1 ≤ n := by have := h.length_le; simpa using this
  have hg : ∀ i (h1 : i < p.length + 1), (p ++ [x])[i]'(by simpa using h1) = ⟨n - 1 - i, by omega⟩ := fun i h1 => by
    have := h.getElem (i := i) (by simpa using h1)
    rw [this]; simp only [List.getElem_reverse, List.length_finRange, List.getElem_finRange]
    rfl
  have hx := hg p.length (by omega)
  simp only [List.getElem_concat_length] at hx
  have hxv : x.val = n - 1 - p.length := by rw [hx]
  refine ⟨by omega, fun j hj => ?_⟩
  have hlt : n - 1 - j.val < p.length := by have := j.isLt; omega
  have := hg (n - 1 - j.val) (by omega)
  rw [List.getElem_append_left hlt] at this
  have e : p[n - 1 - j.val] = j := by rw [this]; apply Fin.ext; simp; have := j.isLt; omega
  exact e ▸ List.getElem_mem hlt
/-- Label j of the first name is alike the label of the second that lies as deep. -/
def AlikeAt (xs ys : Nm) (j : Fin xs.length) : Prop := ∃ d, ∃ h : d < ys.length, j.val + ys.length = d + xs.length ∧ compareM xs[j] ys[d] = 0
theorem AlikeAt.eq {j : Fin xs.length} (h : AlikeAt xs ys j) : xs.length ≤ j.val + ys.length ∧ ∀ h : j.val + ys.length - xs.length < ys.length, compareM xs[j] ys[j.val + ys.length - xs.length] = 0 := by
  obtain ⟨d, hd, e, h0⟩ := h
  obtain rfl : d = j.val + ys.length - xs.length := by omega
  exact ⟨by omega, fun _ => h0⟩
theorem of_compareM {a b : List UInt8} : sameM a b = true ↔ compareM a b = 0 := by rw [sameM_eq, decide_eq_true_iff]

end Go.Proofs.YtkjmghnbcnbdbaaGreatDoor

