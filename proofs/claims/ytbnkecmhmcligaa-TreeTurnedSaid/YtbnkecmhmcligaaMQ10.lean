/-
  The document's reading of escapes (package toponymref6): Octets, ParseLabel: what label.Parse reads.
-/
import Derived.Test.YtbnkecmhmcligaaMQ37
import Derived.Test.YtbnkecmhmcligaaMQ02
import Derived.Test.YtbnkecmhmcligaaMQ23
namespace Go.Proofs.Ytbnkecmhmcligaa
set_option linter.unusedVariables false
set_option linter.unusedSimpArgs false
set_option maxRecDepth 20000
open Go.RowKit Go.Shelf

section
variable (s : ByteArray) (k : Nat)
theorem rd_dot (h : k < s.size) (h1 : ((s[k].toNat : Int) == 46) = true) : readM (s.data.toList.drop k) = (0, 0, 2) := by
  rw [drop_cons_get s k h]; have : s[k] = 46 := u8_is (n := 46) (by omega) h1
  simp [readM, this]
theorem rd_plain (h : k < s.size) (h1 : ((s[k].toNat : Int) == 46) = false) (h2 : ((s[k].toNat : Int) != 92) = true) : readM (s.data.toList.drop k) = (s[k], 1, 0) := by
  rw [drop_cons_get s k h]; have e1 : s[k] ≠ 46 := u8_isnt (n := 46) (by omega) h1
  have e2 : s[k] ≠ 92 := u8_isnt (n := 92) (by omega) (by simpa using h2)
  simp [readM, e1, e2]
theorem rd_one (h : k < s.size) (h2 : ((s[k].toNat : Int) != 92) = false) (h3 : s.size ≤ k + 1) : readM (s.data.toList.drop k) = (0, 0, 2) := by
  rw [drop_cons_get s k h, u8_92 h2, List.drop_eq_nil_of_le (by rw [size_data]; omega)]; simp [readM]
theorem rd_sign (h : k + 1 < s.size) (h2 : ((s[k].toNat : Int) != 92) = false) (h3 : digitU s[k + 1] = false) : readM (s.data.toList.drop k) = (s[k + 1], 2, 0) := by
  rw [drop_cons_get s k (by omega), drop_cons_get s (k + 1) h, u8_92 h2]; simp [readM, h3]
theorem rd_short (h : k + 1 < s.size) (h2 : ((s[k].toNat : Int) != 92) = false) (h3 : digitU s[k + 1] = true) (h4 : s.size ≤ k + 3) : readM (s.data.toList.drop k) = (0, 0, 2) := by
  rw [drop_cons_get s k (by omega), drop_cons_get s (k + 1) h, u8_92 h2]
  have hl : (s.data.toList.drop (k + 1 + 1)).length < 2 := by rw [List.length_drop, size_data]; omega
  match hd : s.data.toList.drop (k + 1 + 1), hl with
  | [], _ => simp [readM, h3]
  | [_], _ => simp [readM, h3]
theorem drop4 (h : k + 3 < s.size) : s.data.toList.drop k = s[k] :: s[k + 1] :: s[k + 2] :: s[k + 3] :: s.data.toList.drop (k + 4) := by
  rw [drop_cons_get s k (by omega), drop_cons_get s (k + 1) (by omega), drop_cons_get s (k + 2) (by omega), drop_cons_get s (k + 3) (by omega)]
theorem rd_bad (h : k + 3 < s.size) (h2 : ((s[k].toNat : Int) != 92) = false) (h3 : digitU s[k + 1] = true) (h4 : ¬ (digitU s[k + 2] = true ∧ digitU s[k + 3] = true)) : readM (s.data.toList.drop k) = (0, 0, 2) := by
  rw [drop4 s k h, u8_92 h2]; simp only [readM, h3]; simp [h4]
theorem rd_over (h : k + 3 < s.size) (h2 : ((s[k].toNat : Int) != 92) = false) (h3 : digitU s[k + 1] = true) (h4 : digitU s[k + 2] = true) (h5 : digitU s[k + 3] = true)
    (h6 : 255 < ((s[k + 1].toNat : Int) - 48) * 100 + ((s[k + 2].toNat : Int) - 48) * 10 + ((s[k + 3].toNat : Int) - 48)) : readM (s.data.toList.drop k) = (0, 0, 7) := by
  have b1 := digit_bounds h3; have b2 := digit_bounds h4; have b3 := digit_bounds h5
  rw [drop4 s k h, u8_92 h2]; simp only [readM, h3, h4, h5]
  rw [if_pos (by omega : 255 < (s[k + 1].toNat - 48) * 100 + (s[k + 2].toNat - 48) * 10 + (s[k + 3].toNat - 48))]; simp
theorem rd_ok (h : k + 3 < s.size) (h2 : ((s[k].toNat : Int) != 92) = false) (h3 : digitU s[k + 1] = true) (h4 : digitU s[k + 2] = true) (h5 : digitU s[k + 3] = true)
    (h6 : ((s[k + 1].toNat : Int) - 48) * 100 + ((s[k + 2].toNat : Int) - 48) * 10 + ((s[k + 3].toNat : Int) - 48) ≤ 255) :
    ∃ c : UInt8, readM (s.data.toList.drop k) = (c, 4, 0) ∧ (c.toNat : Int) = ((s[k + 1].toNat : Int) - 48) * 100 + ((s[k + 2].toNat : Int) - 48) * 10 + ((s[k + 3].toNat : Int) - 48) := by
  have b1 := digit_bounds h3; have b2 := digit_bounds h4; have b3 := digit_bounds h5
  refine ⟨UInt8.ofNat ((s[k + 1].toNat - 48) * 100 + (s[k + 2].toNat - 48) * 10 + (s[k + 3].toNat - 48)), ?_, ?_⟩
  · rw [drop4 s k h, u8_92 h2]; simp only [readM, h3, h4, h5]
    rw [if_neg (by omega : ¬ 255 < (s[k + 1].toNat - 48) * 100 + (s[k + 2].toNat - 48) * 10 + (s[k + 3].toNat - 48))]; simp
  · rw [UInt8.toNat_ofNat']; omega
end

def OctPost (s : ByteArray) (w : World) (e : Ending) (w' : World) : Prop :=
  e = .returned (.tuple #[.string ⟨(scan s.data.toList).1.toArray⟩, .int .i64 (scan s.data.toList).2]) ∧ Below w.heap.size w w'
theorem oct_fin {s : ByteArray} {w w' : World} {e : Ending} (l : List UInt8) (er : Int) (h : scan s.data.toList = (l, er)) (he : e = .returned (.tuple #[.string ⟨l.toArray⟩, .int .i64 er])) (hw : Below w.heap.size w w') : OctPost s w e w' := by
  unfold OctPost; rw [h]; exact ⟨he, hw⟩
theorem drop_ne (s : ByteArray) (k : Nat) (h : k < s.size) : s.data.toList.drop k ≠ [] := by
  intro e; have := congrArg List.length e; rw [List.length_drop, size_data] at this; simp at this; omega
theorem oct_err {s : ByteArray} {k : Nat} {xs : List UInt8} {er : Int} {c : UInt8} {z : Nat} (hJ : scan s.data.toList = join xs (scan (s.data.toList.drop k))) (hk : k < s.size) (hr : readM (s.data.toList.drop k) = (c, z, er)) (he : er ≠ 0) :
    scan s.data.toList = ([], er) := by
  rw [hJ, scan_err (drop_ne s k hk) (by rw [hr]; exact he), hr]; unfold join; rw [if_neg he]
theorem oct_next {s : ByteArray} {k : Nat} {xs : List UInt8} {c : UInt8} {z : Nat} (hJ : scan s.data.toList = join xs (scan (s.data.toList.drop k))) (hk : k < s.size) (hr : readM (s.data.toList.drop k) = (c, z, 0)) :
    scan s.data.toList = join (xs ++ [c]) (scan (s.data.toList.drop (k + z))) := by
  rw [hJ, scan_ok (drop_ne s k hk) (by rw [hr]), hr, join_join, List.drop_drop]

theorem scanM_len : ∀ (n : Nat) (l : List UInt8), l.length ≤ n → (scan l).1.length ≤ l.length := by
  intro n
  induction n with
  | zero => intro l h; obtain rfl : l = [] := List.eq_nil_of_length_eq_zero (by omega); simp [scan_nil]
  | succ n ih =>
    intro l h
    by_cases h0 : l = []
    · subst h0; simp [scan_nil]
    by_cases h1 : (readM l).2.2 = 0
    · have hs := readM_size h0 h1
      rw [scan_ok h0 h1]
      unfold join
      have h2 := ih (l.drop (readM l).2.1) (by rw [List.length_drop]; omega)
      rw [List.length_drop] at h2
      split
      · simp; omega
      · simp
    · rw [scan_err h0 h1]; simp

end Go.Proofs.Ytbnkecmhmcligaa

/-
  Trees of names as rows of ways down from the root: plain facts.
-/
namespace Go.Proofs.Ytbnkecmhmcligaa
set_option linter.unusedVariables false
set_option linter.unusedSimpArgs false
set_option maxRecDepth 20000
open Go.RowKit Go.Shelf
/-- A name's way down: its labels, folded, from the root's side on. -/
def wayN (n : Nm) : Nm := (foldN n).reverse
structure TreeOK (ks : List Nm) : Prop where
  root : [] ∈ ks
  nodup : ks.Nodup
  up : ∀ p l, p ++ [l] ∈ ks → p ∈ ks
  fold : ∀ p ∈ ks, foldN p = p
theorem TreeOK.pre {ks : List Nm} (h : TreeOK ks) : ∀ (r p : Nm), p ++ r ∈ ks → p ∈ ks
  | [], p, hp => by simpa using hp
  | l :: r, p, hp => h.up p l (h.pre r (p ++ [l]) (by simpa using hp))
theorem TreeOK.take {ks : List Nm} (h : TreeOK ks) {p : Nm} (hp : p ∈ ks) (k : Nat) : p.take k ∈ ks := h.pre (p.drop k) _ (by rw [List.take_append_drop]; exact hp)
theorem treeOK_nil : TreeOK [[]] := ⟨by simp, by simp, fun p l h => by simp at h, by simp [foldN]⟩
theorem foldN_idem (n : Nm) : foldN (foldN n) = foldN n := by
  unfold foldN; rw [List.map_map]; apply List.map_congr_left; intro l _; exact foldL_idem l
theorem foldN_rev (n : Nm) : foldN n.reverse = (foldN n).reverse := by simp [foldN]
theorem foldN_take (n : Nm) (k : Nat) : foldN (n.take k) = (foldN n).take k := by simp [foldN, List.map_take]
theorem foldN_drop (n : Nm) (k : Nat) : foldN (n.drop k) = (foldN n).drop k := by simp [foldN, List.map_drop]
theorem wayN_fold (n : Nm) : foldN (wayN n) = wayN n := by unfold wayN; rw [foldN_rev, foldN_idem]
theorem wayN_len (n : Nm) : (wayN n).length = n.length := by simp [wayN, foldN]
theorem wayN_take (n : Nm) (k : Nat) (hk : k ≤ n.length) : ((wayN n).take k).reverse = foldN (n.drop (n.length - k)) := by
  unfold wayN; rw [List.take_reverse, List.reverse_reverse, foldN_drop, foldN_len]
theorem wayN_eq {a b : Nm} : wayN a = wayN b ↔ sameN a b = true := by
  rw [sameN_iff]; unfold wayN; exact ⟨fun h => by rw [← List.reverse_reverse (foldN a), h, List.reverse_reverse], fun h => by rw [h]⟩

/-! ### a name put -/
def addP (ks : List Nm) (p : Nm) : Nat → List Nm
  | 0 => ks
  | k + 1 => if p.take (k + 1) ∈ addP ks p k then addP ks p k else addP ks p k ++ [p.take (k + 1)]
theorem mem_addP (ks : List Nm) (p q : Nm) : ∀ k, q ∈ addP ks p k ↔ q ∈ ks ∨ ∃ j, 1 ≤ j ∧ j ≤ k ∧ q = p.take j
  | 0 => by simp only [addP]; exact ⟨.inl, fun h => h.elim id (fun ⟨j, h1, h2, _⟩ => by omega)⟩
  | k + 1 => by
    have ih := mem_addP ks p q k
    simp only [addP]
    split
    · rename_i h
      rw [ih]
      refine ⟨fun h => h.imp id (fun ⟨j, a, b, c⟩ => ⟨j, a, by omega, c⟩), fun h2 => ?_⟩
      rcases h2 with h2 | ⟨j, a, b, c⟩
      · exact .inl h2
      · by_cases e : j = k + 1
        · subst e; rw [← ih, c]; exact h
        · exact .inr ⟨j, a, by omega, c⟩
    · rw [List.mem_append, ih, List.mem_singleton]
      refine ⟨fun h => ?_, fun h => ?_⟩
      · rcases h with (h | ⟨j, a, b, c⟩) | h
        · exact .inl h
        · exact .inr ⟨j, a, by omega, c⟩
        · exact .inr ⟨k + 1, by omega, Nat.le_refl _, h⟩
      · rcases h with h | ⟨j, a, b, c⟩
        · exact .inl (.inl h)
        · by_cases e : j = k + 1
          · subst e; exact .inr c
          · exact .inl (.inr ⟨j, a, by omega, c⟩)
theorem addP_len (ks : List Nm) (p : Nm) : ∀ k, (addP ks p k).length ≤ ks.length + k
  | 0 => Nat.le_refl _
  | k + 1 => by
    have := addP_len ks p k
    simp only [addP]; split
    · omega
    · simp; omega
theorem addP_mem (ks : List Nm) (p : Nm) (hr : [] ∈ ks) (k : Nat) : p.take k ∈ addP ks p k := by
  rw [mem_addP]
  rcases k with _ | k
  · exact .inl (by simpa using hr)
  · exact .inr ⟨k + 1, by omega, Nat.le_refl _, rfl⟩
theorem TreeOK.snoc {ks : List Nm} {p : Nm} {l : List UInt8} (h : TreeOK ks) (hp : p ∈ ks) (hn : p ++ [l] ∉ ks) (hf : foldN (p ++ [l]) = p ++ [l]) : TreeOK (ks ++ [p ++ [l]]) :=
  ⟨by simp [h.root], by
    rw [List.nodup_append]
    exact ⟨h.nodup, by simp, fun a ha b hb => by rw [List.mem_singleton] at hb; subst hb; intro e; subst e; exact hn ha⟩, fun q m hq => by
    rw [List.mem_append, List.mem_singleton] at hq ⊢
    rcases hq with hq | hq
    · exact .inl (h.up q m hq)
    · obtain ⟨e, _⟩ := List.append_inj' hq rfl
      exact .inl (e ▸ hp), fun q hq => by
    rw [List.mem_append, List.mem_singleton] at hq
    rcases hq with hq | hq
    · exact h.fold q hq
    · rw [hq]; exact hf⟩
theorem take_succ_get {p : Nm} {k : Nat} (hk : k < p.length) : p.take (k + 1) = p.take k ++ [p[k]] := List.take_succ_eq_append_getElem hk
theorem addP_ok {ks : List Nm} {p : Nm} (h : TreeOK ks) (hf : foldN p = p) : ∀ k, k ≤ p.length → TreeOK (addP ks p k)
  | 0, _ => h
  | k + 1, hk => by
    have ih := addP_ok h hf k (by omega)
    simp only [addP]
    split
    · exact ih
    · rename_i hn
      rw [take_succ_get (by omega)] at hn ⊢
      refine ih.snoc (addP_mem ks p h.root k) hn ?_
      rw [← take_succ_get (by omega), foldN_take, hf]
def addK (ks : List Nm) (p : Nm) : List Nm := addP ks p p.length
theorem mem_addK {ks : List Nm} {p q : Nm} (hr : [] ∈ ks) : q ∈ addK ks p ↔ q ∈ ks ∨ q <+: p := by
  unfold addK
  rw [mem_addP]
  refine ⟨fun h => h.imp id (fun ⟨j, _, _, e⟩ => e ▸ List.take_prefix _ _), fun h => ?_⟩
  rcases h with h | h
  · exact .inl h
  · rcases q with _ | ⟨x, q⟩
    · exact .inl hr
    · exact .inr ⟨(x :: q).length, by simp, h.length_le, List.prefix_iff_eq_take.1 h⟩

/-! ### the deepest -/
/-- d is how deep the way p is there. -/
def DeepAt (ks : List Nm) (p : Nm) (d : Nat) : Prop := d ≤ p.length ∧ p.take d ∈ ks ∧ ∀ k ≤ p.length, p.take k ∈ ks → k ≤ d
theorem DeepAt.uniq {ks : List Nm} {p : Nm} {d e : Nat} (h : DeepAt ks p d) (k : DeepAt ks p e) : d = e := Nat.le_antisymm (k.2.2 d h.1 h.2.1) (h.2.2 e k.1 k.2.1)
theorem deepAt_all {ks : List Nm} {p : Nm} (h : p ∈ ks) : DeepAt ks p p.length := ⟨Nat.le_refl _, by simpa using h, fun k hk _ => hk⟩
theorem deepAt_stop {ks : List Nm} {p : Nm} {k : Nat} (h : TreeOK ks) (hk : k < p.length) (h1 : p.take k ∈ ks) (h2 : p.take (k + 1) ∉ ks) : DeepAt ks p k :=
  ⟨by omega, h1, fun m hm hmk => by
    refine Nat.le_of_not_lt fun hlt => h2 ?_
    have := h.take hmk (k + 1)
    rwa [List.take_take, Nat.min_eq_left (by omega)] at this⟩
theorem DeepAt.full {ks : List Nm} {p : Nm} {d : Nat} (h : DeepAt ks p d) : d = p.length ↔ p ∈ ks :=
  ⟨fun e => by have := h.2.1; rw [e, List.take_length] at this; exact this, fun hp => h.uniq (deepAt_all hp)⟩

/-! ### the order -/
theorem compareM_self (x : List UInt8) : compareM x x = 0 := (compareM_zero _ _).2 rfl
theorem cmpR_pre : ∀ (p : Nm) (l : List UInt8) (r : Nm), cmpR p (p ++ l :: r) = -1
  | [], _, _ => rfl
  | x :: p, l, r => by simp only [List.cons_append, cmpR, compareM_self, if_pos]; exact cmpR_pre p l r
theorem cmpR_fork : ∀ (p : Nm) (l m : List UInt8) (r s : Nm), compareM l m ≠ 0 → cmpR (p ++ l :: r) (p ++ m :: s) = compareM l m
  | [], l, m, r, s, h => by simp only [List.nil_append, cmpR]; rw [if_neg h]
  | x :: p, l, m, r, s, h => by simp only [List.cons_append, cmpR, compareM_self, if_pos]; exact cmpR_fork p l m r s h
theorem cmpR_eq {a b : Nm} (ha : foldN a = a) (hb : foldN b = b) (h : cmpR a b = 0) : a = b := by
  have := (cmpR_zero a b).1 h; rwa [ha, hb] at this
/-- A row of ways in order, none twice. -/
abbrev Rising (l : List Nm) : Prop := l.Pairwise fun a b => cmpR a b = -1
theorem rising_uniq : ∀ {a b : List Nm}, Rising a → Rising b → (∀ x, x ∈ a ↔ x ∈ b) → a = b
  | [], [], _, _, _ => rfl
  | [], y :: b, _, _, h => by have := (h y).2 (by simp); cases this
  | x :: a, [], _, _, h => by have := (h x).1 (by simp); cases this
  | x :: a, y :: b, ha, hb, h => by
    obtain ⟨ha1, ha2⟩ := List.pairwise_cons.1 ha
    obtain ⟨hb1, hb2⟩ := List.pairwise_cons.1 hb
    have irr : ∀ z : Nm, cmpR z z ≠ -1 := fun z e => by have := (cmpR_zero z z).2 rfl; omega
    have hxy : x = y := by
      rcases List.mem_cons.1 ((h x).1 (by simp)) with e | e
      · exact e
      · rcases List.mem_cons.1 ((h y).2 (by simp)) with e2 | e2
        · exact e2.symm
        · have h1 := hb1 x e
          have h2 := ha1 y e2
          have := cmpR_swap x y
          omega
    subst hxy
    congr 1
    refine rising_uniq ha2 hb2 fun z => ⟨fun hz => ?_, fun hz => ?_⟩
    · rcases List.mem_cons.1 ((h z).1 (by simp [hz])) with e | e
      · subst e; exact absurd (ha1 z hz) (irr z)
      · exact e
    · rcases List.mem_cons.1 ((h z).2 (by simp [hz])) with e | e
      · subst e; exact absurd (hb1 z hz) (irr z)
      · exact e
def srtT (ks : List Nm) : List Nm := ks.mergeSort fun a b => decide (cmpR a b ≤ 0)
theorem mem_srtT {ks : List Nm} {p : Nm} : p ∈ srtT ks ↔ p ∈ ks := (List.mergeSort_perm ks _).mem_iff
theorem srtT_len (ks : List Nm) : (srtT ks).length = ks.length := (List.mergeSort_perm ks _).length_eq
theorem srtT_rising {ks : List Nm} (h : TreeOK ks) : Rising (srtT ks) := by
  have tr : ∀ a b c : Nm, decide (cmpR a b ≤ 0) = true → decide (cmpR b c ≤ 0) = true → decide (cmpR a c ≤ 0) = true := fun a b c h1 h2 => by
    rw [decide_eq_true_iff] at *; exact cmpR_trans a b c h1 h2
  have to : ∀ a b : Nm, (decide (cmpR a b ≤ 0) || decide (cmpR b a ≤ 0)) = true := fun a b => by
    have := cmpR_swap a b
    rw [Bool.or_eq_true, decide_eq_true_iff, decide_eq_true_iff]; omega
  have h1 := List.pairwise_mergeSort tr to ks
  have h2 : (srtT ks).Nodup := (List.mergeSort_perm ks _).nodup_iff.2 h.nodup
  have h3 : ∀ x ∈ srtT ks, foldN x = x := fun x hx => h.fold x (mem_srtT.1 hx)
  unfold srtT at h2 h3 ⊢
  generalize ks.mergeSort _ = L at *
  induction L with
  | nil => exact List.Pairwise.nil
  | cons x r ih =>
    obtain ⟨a1, a2⟩ := List.pairwise_cons.1 h1
    obtain ⟨b1, b2⟩ := List.nodup_cons.1 h2
    refine List.pairwise_cons.2 ⟨fun y hy => ?_, ih a2 b2 (fun z hz => h3 z (by simp [hz]))⟩
    have h4 := a1 y hy
    rw [decide_eq_true_iff] at h4
    rcases cmpR_range x y with e | e | e
    · exact e
    · have := cmpR_eq (h3 x (by simp)) (h3 y (by simp [hy])) e
      subst this; exact absurd hy b1
    · omega
theorem srt_is {ks l : List Nm} (h : TreeOK ks) (hl : Rising l) (hm : ∀ x, x ∈ l ↔ x ∈ ks) : l = srtT ks := rising_uniq hl (srtT_rising h) fun x => by rw [hm, mem_srtT]

/-! ### each ahead of those below it -/
/-- The labels right below p, in order. -/
structure KidsOf (ks : List Nm) (p : Nm) (ls : List (List UInt8)) : Prop where
  mem : ∀ l, l ∈ ls ↔ p ++ [l] ∈ ks
  rise : ls.Pairwise fun a b => compareM a b = -1
def subT (ks : List Nm) (p : Nm) : List Nm := (srtT ks).filter fun q => decide (p <+: q)
theorem mem_subT {ks : List Nm} {p q : Nm} : q ∈ subT ks p ↔ q ∈ ks ∧ p <+: q := by unfold subT; rw [List.mem_filter, mem_srtT]; simp
theorem subT_root (ks : List Nm) : subT ks [] = srtT ks := by unfold subT; rw [List.filter_eq_self]; simp
theorem subT_cons {ks : List Nm} {p : Nm} {ls : List (List UInt8)} (h : TreeOK ks) (hp : p ∈ ks) (hk : KidsOf ks p ls) : subT ks p = p :: ls.flatMap fun l => subT ks (p ++ [l]) := by
  have inner : ∀ l q, q ∈ subT ks (p ++ [l]) → ∃ r, q = p ++ l :: r := fun l q hq => by
    obtain ⟨_, r, hr⟩ := mem_subT.1 hq
    exact ⟨r, by rw [← hr]; simp⟩
  refine rising_uniq ((srtT_rising h).filter _) (List.pairwise_cons.2 ⟨fun q hq => ?_, ?_⟩) fun q => ?_
  · obtain ⟨l, _, hq⟩ := List.mem_flatMap.1 hq
    obtain ⟨r, rfl⟩ := inner l q hq
    exact cmpR_pre p l r
  · have hr := hk.rise
    clear hk
    induction ls with
    | nil => exact List.Pairwise.nil
    | cons l t ih =>
      obtain ⟨a1, a2⟩ := List.pairwise_cons.1 hr
      rw [List.flatMap_cons]
      refine List.pairwise_append.2 ⟨(srtT_rising h).filter _, ih a2, fun a ha b hb => ?_⟩
      obtain ⟨r, rfl⟩ := inner l a ha
      obtain ⟨m, hm, hb⟩ := List.mem_flatMap.1 hb
      obtain ⟨s, rfl⟩ := inner m b hb
      have := a1 m hm
      rw [cmpR_fork p l m r s (by omega)]; exact this
  · rw [mem_subT, List.mem_cons, List.mem_flatMap]
    refine ⟨fun ⟨h1, r, hr⟩ => ?_, fun h1 => ?_⟩
    · rcases r with _ | ⟨l, r⟩
      · left; simpa using hr.symm
      · right
        have e : q = (p ++ [l]) ++ r := by rw [← hr]; simp
        refine ⟨l, (hk.mem l).2 (h.pre r _ (e ▸ h1)), mem_subT.2 ⟨h1, r, e.symm⟩⟩
    · rcases h1 with rfl | ⟨l, hl, hq⟩
      · exact ⟨hp, List.prefix_refl _⟩
      · obtain ⟨h1, r, hr⟩ := mem_subT.1 hq
        exact ⟨h1, l :: r, by rw [← hr]; simp⟩

/-! ### the order of folded labels is that of octets -/
theorem compareM_le : ∀ {a b : List UInt8}, foldL a = a → foldL b = b → (compareM a b ≤ 0 ↔ a ≤ b)
  | [], [], _, _ => by simp [compareM]
  | [], _ :: _, _, _ => by simp [compareM]
  | _ :: _, [], _, _ => by simp [compareM]
  | x :: a, y :: b, ha, hb => by
    simp only [foldL, List.map_cons, List.cons.injEq] at ha hb
    have ih := compareM_le (a := a) (b := b) ha.2 hb.2
    simp only [compareM, ha.1, hb.1]
    rw [List.cons_le_cons_iff]
    by_cases e : x = y
    · subst e; rw [if_pos rfl, ih]
      exact ⟨fun h => .inr ⟨rfl, h⟩, fun h => h.elim (fun h => absurd h (by simp)) (fun h => h.2)⟩
    · rw [if_neg e]
      have hn : x.toNat ≠ y.toNat := fun h => e (UInt8.toNat_inj.1 h)
      have hl : x < y ↔ x.toNat < y.toNat := UInt8.lt_iff_toNat_lt
      unfold cmpI
      constructor
      · intro h
        left
        rw [hl]
        split at h
        · omega
        · split at h <;> omega
      · rintro (h | h)
        · rw [hl] at h; rw [if_pos (by omega)]; omega
        · exact absurd h.1 e
theorem kids_of {ks : List Nm} {p : Nm} {ss : List (List UInt8)} (h : TreeOK ks) (hm : ∀ l, l ∈ ss ↔ p ++ [l] ∈ ks) (hn : ss.Nodup) : KidsOf ks p (ss.mergeSort fun x y => decide (x ≤ y)) := by
  have hf : ∀ l, p ++ [l] ∈ ks → foldL l = l := fun l hl => by
    have := h.fold _ hl
    unfold foldN at this
    rw [List.map_append] at this
    have := (List.append_inj' this rfl).2
    simpa using this
  have tr : ∀ a b c : List UInt8, decide (a ≤ b) = true → decide (b ≤ c) = true → decide (a ≤ c) = true := fun a b c h1 h2 => by rw [decide_eq_true_iff] at *; exact List.le_trans h1 h2
  have to : ∀ a b : List UInt8, (decide (a ≤ b) || decide (b ≤ a)) = true := fun a b => by simp only [Bool.or_eq_true, decide_eq_true_eq]; exact List.le_total a b
  have hp := List.mergeSort_perm ss fun x y => decide (x ≤ y)
  refine ⟨fun l => by rw [hp.mem_iff, hm], ?_⟩
  have h1 := List.pairwise_mergeSort tr to ss
  have h2 := hp.nodup_iff.2 hn
  have h3 : ∀ x ∈ ss.mergeSort fun x y => decide (x ≤ y), foldL x = x := fun x hx => hf x ((hm x).1 (hp.mem_iff.1 hx))
  generalize ss.mergeSort (fun x y => decide (x ≤ y)) = L at *
  clear hp
  induction L with
  | nil => exact List.Pairwise.nil
  | cons x r ih =>
    obtain ⟨a1, a2⟩ := List.pairwise_cons.1 h1
    obtain ⟨b1, b2⟩ := List.nodup_cons.1 h2
    refine List.pairwise_cons.2 ⟨fun y hy => ?_, ih a2 b2 (fun z hz => h3 z (by simp [hz]))⟩
    have h4 := a1 y hy
    rw [decide_eq_true_iff] at h4
    have h5 := (compareM_le (h3 x (by simp)) (h3 y (by simp [hy]))).2 h4
    rcases compareM_range x y with e | e | e
    · exact e
    · have := (compareM_zero x y).1 e
      rw [h3 x (by simp), h3 y (by simp [hy])] at this
      subst this; exact absurd hy b1
    · omega
end Go.Proofs.Ytbnkecmhmcligaa

