/-
  The stable sort, block by block: what its loops keep.
-/
import Derived.Test.YtckammgnmgkieaaMQ32
import Derived.Test.YtckammgnmgkieaaMQ22
import Derived.Lib.IndexBytes
import Derived.Lib.ConvBytes
import Derived.Laws.Concat
import Derived.Lib.ItoaNum
import Derived.Lib.ItoaMem
import Derived.Lib.PathFns
namespace Go.Proofs.Ytckammgnmgkieaa.Stb
open Go.Sort
set_option linter.unusedSectionVars false
variable {α : Type} [Inhabited α] {cf : α → α → Int} {tg : α → Nat}

def lb (cf : α → α → Int) (x y : α) : Bool := decide (cf x y < 0)

structure InsR (cf : α → α → Int) (tg : α → Nat) (a j i : Nat) (d : Array α) : Prop where
  rest : ∀ p q, a ≤ p → p < q → q ≤ i → p ≠ j → q ≠ j → Lx cf tg d[p]! d[q]!
  right : ∀ q, j < q → q ≤ i → Lx cf tg d[j]! d[q]!
  most : ∀ q, a ≤ q → q ≤ i → q ≠ j → tg d[q]! < tg d[j]!

theorem InsR.stop (hO : COrd cf) {a j i : Nat} {d : Array α} (h : InsR cf tg a j i d) (haj : a ≤ j) (hji : j ≤ i) (hs : j ≤ a ∨ lb cf d[j]! d[j - 1]! = false) : Rise cf tg a (i + 1) d := by
  have hl : ∀ p, a ≤ p → p < j → Lx cf tg d[p]! d[j]! := fun p h1 h2 => by
    rcases hs with hs | hs
    · omega
    · have hx : Lx cf tg d[j - 1]! d[j]! := Lx.of_not hO (h.most _ (by omega) (by omega) (by omega)) (by simpa [lb] using hs)
      by_cases e : p = j - 1
      · subst e; exact hx
      · exact (h.rest p (j - 1) h1 (by omega) (by omega) (by omega) (by omega)).trans hO hx
  intro p q hap hpq hqi
  by_cases hq : q = j
  · subst hq; exact hl p hap hpq
  · by_cases hp : p = j
    · subst hp; exact h.right q hpq (by omega)
    · exact h.rest p q hap hpq (by omega) hp hq

theorem InsR.step {a j i : Nat} {d : Array α} (h : InsR cf tg a (j + 1) i d) (hl : lb cf d[j + 1]! d[j]! = true) (haj : a ≤ j) (hji : j + 1 ≤ i) (hsz : j + 1 < d.size) : InsR cf tg a j i (swp d (j + 1) j) := by
  have g := swp_get d hsz (show j < d.size by omega)
  have hl' : cf d[j + 1]! d[j]! < 0 := by simpa [lb] using hl
  refine ⟨fun p q hap hpq hqi hp hq => ?_, fun q hjq hqi => ?_, fun q haq hqi hq => ?_⟩
  · rw [g, g]
    repeat' split
    all_goals first
      | (exfalso; omega)
      | exact h.rest _ _ (by omega) (by omega) (by omega) (by omega) (by omega)
  · rw [g, g, if_pos rfl]
    repeat' split
    all_goals first
      | (exfalso; omega)
      | exact Or.inl hl'
      | exact h.right _ (by omega) (by omega)
  · rw [g, g, if_pos rfl]
    repeat' split
    all_goals first
      | (exfalso; omega)
      | exact h.most _ (by omega) (by omega) (by omega)

theorem insInner_rise (hO : COrd cf) (a i : Nat) : ∀ (j : Nat) (d : Array α), a ≤ j → j ≤ i → i + 1 ≤ d.size → InsR cf tg a j i d →
    PermIn a (i + 1) d (insInner (lb cf) a j d) ∧ Rise cf tg a (i + 1) (insInner (lb cf) a j d)
  | 0, d, h1, h2, _, hI => by
    unfold insInner
    exact ⟨permIn_refl d a _, hI.stop hO h1 h2 (Or.inl (Nat.zero_le _))⟩
  | j + 1, d, haj, hji, hb, hI => by
    unfold insInner
    split
    · rename_i hc
      simp only [Bool.and_eq_true, decide_eq_true_eq] at hc
      have ih := insInner_rise hO a i j (swp d (j + 1) j) (by omega) (by omega) (by rw [swp_size]; exact hb) (hI.step hc.2 (by omega) hji (by omega))
      exact ⟨permIn_trans _ _ _ a (i + 1) (swp_permIn d a (i + 1) (j + 1) j haj (by omega) (by omega) (by omega) hb) ih.1, ih.2⟩
    · rename_i hc
      simp only [Bool.and_eq_true, decide_eq_true_eq, not_and, Bool.not_eq_true] at hc
      refine ⟨permIn_refl d a _, hI.stop hO haj hji ?_⟩
      by_cases h : j + 1 > a
      · exact Or.inr (by simpa using hc h)
      · exact Or.inl (by omega)

theorem insOuter_rise (hO : COrd cf) (a b : Nat) : ∀ (n i : Nat) (d : Array α), b - i = n → a < i → i ≤ b → b ≤ d.size → Rise cf tg a i d → (∀ p q, a ≤ p → p < q → i ≤ q → q < b → tg d[p]! < tg d[q]!) →
    PermIn a b d (insOuter (lb cf) a b i d) ∧ Rise cf tg a b (insOuter (lb cf) a b i d)
  | 0, i, d, hn, _, hib, _, hs, _ => by
    obtain rfl : i = b := by omega
    rw [insOuter, if_neg (by omega)]
    exact ⟨permIn_refl d a i, hs⟩
  | n + 1, i, d, hn, hai, hib, hb, hs, ht => by
    have hlt : i < b := by omega
    rw [insOuter, if_pos hlt]
    have h1 := insInner_rise hO a i i d (by omega) (Nat.le_refl _) (by omega) ⟨fun p q hap hpq hqi _ hq => hs p q hap hpq (by omega), fun q h1 h2 => by omega, fun q h1 h2 h3 => ht q i h1 (by omega) (Nat.le_refl _) hlt⟩
    have hp := h1.1
    have ht2 : ∀ p q, a ≤ p → p < q → i + 1 ≤ q → q < b → tg (insInner (lb cf) a i d)[p]! < tg (insInner (lb cf) a i d)[q]! := fun p q g1 g2 g3 g4 => by
      rw [hp.2.1 q (Or.inr g3)]
      by_cases hpi : p < i + 1
      · exact permIn_all d _ a (i + 1) (fun x => tg x < tg d[q]!) (by omega) hp (fun k k1 k2 => ht k q k1 (by omega) (by omega) g4) p g1 hpi
      · rw [hp.2.1 p (Or.inr (by omega))]; exact ht p q g1 g2 (by omega) g4
    have h2 := insOuter_rise hO a b n (i + 1) (insInner (lb cf) a i d) (by omega) (by omega) (by omega) (by rw [hp.1]; exact hb) h1.2 ht2
    exact ⟨permIn_trans _ _ _ a b (permIn_mono _ _ a (i + 1) a b (Nat.le_refl _) (by omega) hb hp) h2.1, h2.2⟩

theorem insertion_rise (hO : COrd cf) (d : Array α) (a b : Nat) (hab : a ≤ b) (hb : b ≤ d.size) (ht : ∀ p q, a ≤ p → p < q → q < b → tg d[p]! < tg d[q]!) :
    PermIn a b d (insertionSort (lb cf) d a b) ∧ Rise cf tg a b (insertionSort (lb cf) d a b) := by
  unfold insertionSort
  by_cases h : a = b
  · subst h
    rw [insOuter, if_neg (by omega)]
    exact ⟨permIn_refl d a a, fun i j h1 h2 h3 => by omega⟩
  · exact insOuter_rise hO a b (b - (a + 1)) (a + 1) d rfl (by omega) (by omega) hb (fun i j h1 h2 h3 => by omega) (fun p q h1 h2 h3 h4 => ht p q h1 h2 h4)

/-! Blocks. -/
/-- Blocks of so many: each rises, each has its own. -/
structure Blk (cf : α → α → Int) (tg : α → Nat) (s : Nat) (d : Array α) : Prop where
  own : ∀ q i, q * s ≤ i → i < q * s + s → i < d.size → q * s ≤ tg d[i]! ∧ tg d[i]! < q * s + s
  up : ∀ q i j, q * s ≤ i → i < j → j < q * s + s → j < d.size → Lx cf tg d[i]! d[j]!
/-- Up to a: blocks of so many; from there on as it came. -/
structure Blk0 (cf : α → α → Int) (tg : α → Nat) (s a : Nat) (d : Array α) : Prop where
  own : ∀ q i, q * s ≤ i → i < q * s + s → i < a → q * s ≤ tg d[i]! ∧ tg d[i]! < q * s + s
  up : ∀ q i j, q * s ≤ i → i < j → j < q * s + s → j < a → Lx cf tg d[i]! d[j]!
  rest : ∀ i, a ≤ i → i < d.size → tg d[i]! = i
theorem Blk0.start {s : Nat} {d : Array α} (h : ∀ i, i < d.size → tg d[i]! = i) : Blk0 cf tg s 0 d := ⟨fun q i h1 h2 h3 => by omega, fun q i j h1 h2 h3 h4 => by omega, fun i _ h1 => h i h1⟩
theorem blk_lt {q r s : Nat} (h : q < r) : q * s + s ≤ r * s := by
  have := Nat.mul_le_mul_right s (show q + 1 ≤ r from h); rwa [Nat.succ_mul] at this
theorem Blk0.tags {s a e : Nat} {d : Array α} (h : Blk0 cf tg s a d) (he : e ≤ d.size) : ∀ p q, a ≤ p → p < q → q < e → tg d[p]! < tg d[q]! := fun p q h1 h2 h3 => by
  rw [h.rest p h1 (by omega), h.rest q (by omega) (by omega)]; exact h2
/-- One block more. -/
theorem Blk0.next {s r e : Nat} {d d' : Array α} (h : Blk0 cf tg s (r * s) d) (he : e ≤ d.size) (hae : r * s ≤ e) (hes : e ≤ r * s + s) (hp : PermIn (r * s) e d d') (hr : Rise cf tg (r * s) e d') : Blk0 cf tg s e d' := by
  have lo : ∀ i, i < r * s → d'[i]! = d[i]! := fun i hi => hp.2.1 i (Or.inl hi)
  have mid : ∀ i, r * s ≤ i → i < e → r * s ≤ tg d'[i]! ∧ tg d'[i]! < e := permIn_all d d' (r * s) e (fun x => r * s ≤ tg x ∧ tg x < e) he hp (fun i h1 h2 => by rw [h.rest i h1 (by omega)]; exact ⟨h1, h2⟩)
  refine ⟨fun q i h1 h2 h3 => ?_, fun q i j h1 h2 h3 h4 => ?_, fun i h1 h2 => ?_⟩
  · by_cases hi : i < r * s
    · rw [lo i hi]; exact h.own q i h1 h2 hi
    · have hqr : q = r := by
        rcases Nat.lt_trichotomy q r with hh | hh | hh
        · have := blk_lt (s := s) hh; omega
        · exact hh
        · have := blk_lt (s := s) hh; omega
      subst hqr
      have := mid i (by omega) h3
      omega
  · by_cases hj : j < r * s
    · rw [lo i (by omega), lo j hj]; exact h.up q i j h1 h2 h3 hj
    · have hqr : q = r := by
        rcases Nat.lt_trichotomy q r with hh | hh | hh
        · have := blk_lt (s := s) hh; omega
        · exact hh
        · have := blk_lt (s := s) hh; omega
      subst hqr
      exact hr i j h1 h2 h4
  · rw [hp.2.1 i (Or.inr h1)]
    exact h.rest i (by omega) (by rw [← hp.1]; exact h2)
theorem Blk0.whole {s : Nat} {d : Array α} (h : Blk0 cf tg s d.size d) : Blk cf tg s d := ⟨h.own, h.up⟩
theorem Blk.rise {s : Nat} {d : Array α} (h : Blk cf tg s d) (hs : d.size ≤ s) : Rise cf tg 0 d.size d := fun i j _ h2 h3 => h.up 0 i j (by omega) h2 (by omega) h3

/-- Up to a: blocks of twice so many; from there on of so many. -/
structure Blk2 (cf : α → α → Int) (tg : α → Nat) (s a : Nat) (d : Array α) : Prop where
  own2 : ∀ q i, q * (2 * s) ≤ i → i < q * (2 * s) + 2 * s → i < d.size → q * (2 * s) ≤ tg d[i]! ∧ tg d[i]! < q * (2 * s) + 2 * s
  own : ∀ q i, a ≤ i → q * s ≤ i → i < q * s + s → i < d.size → q * s ≤ tg d[i]! ∧ tg d[i]! < q * s + s
  up2 : ∀ q i j, q * (2 * s) ≤ i → i < j → j < q * (2 * s) + 2 * s → j < a → Lx cf tg d[i]! d[j]!
  up : ∀ q i j, a ≤ i → q * s ≤ i → i < j → j < q * s + s → j < d.size → Lx cf tg d[i]! d[j]!
theorem twice (q s : Nat) : q * (2 * s) = 2 * q * s ∧ (2 * q + 1) * s = 2 * q * s + s := ⟨by rw [← Nat.mul_assoc, Nat.mul_comm q 2], by rw [Nat.succ_mul]⟩
theorem Blk2.start {s : Nat} {d : Array α} (h : Blk cf tg s d) : Blk2 cf tg s 0 d := by
  refine ⟨fun q i h1 h2 h3 => ?_, fun q i _ => h.own q i, fun q i j h1 h2 h3 h4 => by omega, fun q i j _ => h.up q i j⟩
  obtain ⟨e1, e2⟩ := twice q s
  by_cases hi : i < 2 * q * s + s
  · have := h.own (2 * q) i (by omega) hi h3; omega
  · have := h.own (2 * q + 1) i (by omega) (by omega) h3; omega
/-- What is to be merged. -/
theorem Blk2.mrg {s r e : Nat} {d : Array α} (h : Blk2 cf tg s (r * (2 * s)) d) (hs : 0 < s) (he : e ≤ d.size) (h1 : r * (2 * s) + s < e) (h2 : e ≤ r * (2 * s) + 2 * s) : Mrg cf tg (r * (2 * s)) (r * (2 * s) + s) e d := by
  obtain ⟨e1, e2⟩ := twice r s
  refine ⟨by omega, h1, he, fun i j g1 g2 g3 => h.up (2 * r) i j g1 (by omega) g2 (by omega) (by omega), fun i j g1 g2 g3 => h.up (2 * r + 1) i j (by omega) (by omega) g2 (by omega) (by omega), fun i j g1 g2 g3 g4 => ?_⟩
  have a1 := h.own (2 * r) i g1 (by omega) (by omega) (by omega)
  have a2 := h.own (2 * r + 1) j (by omega) (by omega) (by omega) (by omega)
  omega
/-- Behind it. -/
theorem Blk2.next {s r e : Nat} {d d' : Array α} (h : Blk2 cf tg s (r * (2 * s)) d) (he : e ≤ d.size) (h1 : r * (2 * s) ≤ e) (h2 : e ≤ r * (2 * s) + 2 * s) (h3 : e = r * (2 * s) + 2 * s ∨ e = d.size) (hp : PermIn (r * (2 * s)) e d d') (hr : Rise cf tg (r * (2 * s)) e d') : Blk2 cf tg s e d' := by
  obtain ⟨e1, e2⟩ := twice r s
  have lo : ∀ i, i < r * (2 * s) → d'[i]! = d[i]! := fun i hi => hp.2.1 i (Or.inl hi)
  have up : ∀ i, e ≤ i → d'[i]! = d[i]! := fun i hi => hp.2.1 i (Or.inr hi)
  have mid : ∀ i, r * (2 * s) ≤ i → i < e → r * (2 * s) ≤ tg d'[i]! ∧ tg d'[i]! < r * (2 * s) + 2 * s := permIn_all d d' _ e (fun x => r * (2 * s) ≤ tg x ∧ tg x < r * (2 * s) + 2 * s) he hp (fun i k1 k2 => h.own2 r i k1 (by omega) (by omega))
  have hsz := hp.1
  refine ⟨fun q i k1 k2 k3 => ?_, fun q i k0 k1 k2 k3 => ?_, fun q i j k1 k2 k3 k4 => ?_, fun q i j k0 k1 k2 k3 k4 => ?_⟩
  · by_cases hi : i < r * (2 * s)
    · rw [lo i hi]; exact h.own2 q i k1 k2 (by omega)
    · by_cases hie : i < e
      · have hqr : q = r := by
          rcases Nat.lt_trichotomy q r with hh | hh | hh
          · have := blk_lt (s := 2 * s) hh; omega
          · exact hh
          · have := blk_lt (s := 2 * s) hh; omega
        subst hqr
        exact mid i (by omega) hie
      · rw [up i (by omega)]; exact h.own2 q i k1 k2 (by omega)
  · rw [up i k0]; exact h.own q i (by omega) k1 k2 (by omega)
  · by_cases hj : j < r * (2 * s)
    · rw [lo i (by omega), lo j hj]; exact h.up2 q i j k1 k2 k3 hj
    · have hqr : q = r := by
        rcases Nat.lt_trichotomy q r with hh | hh | hh
        · have := blk_lt (s := 2 * s) hh; omega
        · exact hh
        · have := blk_lt (s := 2 * s) hh; omega
      subst hqr
      exact hr i j k1 k2 k4
  · rw [up i k0, up j (by omega)]; exact h.up q i j (by omega) k1 k2 k3 (by omega)
/-- The last block may be none. -/
theorem Blk2.short {s r : Nat} {d : Array α} (h : Blk2 cf tg s (r * (2 * s)) d) (h1 : d.size ≤ r * (2 * s) + s) : Rise cf tg (r * (2 * s)) d.size d := by
  obtain ⟨e1, e2⟩ := twice r s
  exact fun i j g1 g2 g3 => h.up (2 * r) i j g1 (by omega) g2 (by omega) g3
theorem Blk2.whole {s a : Nat} {d : Array α} (h : Blk2 cf tg s a d) (ha : d.size ≤ a) : Blk cf tg (2 * s) d := ⟨h.own2, fun q i j h1 h2 h3 h4 => h.up2 q i j h1 h2 h3 (by omega)⟩
end Go.Proofs.Ytckammgnmgkieaa.Stb

/-
  Contract of label.Parse: any text as a label, or why it is none.
-/
namespace Go.Proofs.Ytckammgnmgkieaa
set_option maxRecDepth 20000
open Go.RowKit Go.Shelf

def scanM : Nat → List UInt8 → List UInt8 × Int
  | _, [] => ([], 0)
  | 0, _ :: _ => ([], 2)
  | n + 1, x :: r =>
    if (readM (x :: r)).2.2 = 0 then
      (if (scanM n ((x :: r).drop (readM (x :: r)).2.1)).2 = 0 then ((readM (x :: r)).1 :: (scanM n ((x :: r).drop (readM (x :: r)).2.1)).1, 0) else ([], (scanM n ((x :: r).drop (readM (x :: r)).2.1)).2))
    else ([], (readM (x :: r)).2.2)
def scan (l : List UInt8) : List UInt8 × Int := scanM l.length l
def join (xs : List UInt8) (t : List UInt8 × Int) : List UInt8 × Int := if t.2 = 0 then (xs ++ t.1, 0) else ([], t.2)
def parseM (l : List UInt8) : List UInt8 × Int :=
  if (scan l).2 = 0 then (if checkLabelM (scan l).1 = 0 then ((scan l).1, 0) else ([], checkLabelM (scan l).1)) else ([], (scan l).2)

theorem readM_size {l : List UInt8} (h0 : l ≠ []) (h : (readM l).2.2 = 0) : 1 ≤ (readM l).2.1 ∧ (readM l).2.1 ≤ 4 ∧ (readM l).2.1 ≤ l.length := by
  match l, h0 with
  | x :: r, _ =>
    simp only [readM] at h ⊢
    by_cases h1 : x = 46
    · simp [h1] at h
    by_cases h2 : x = 92
    · simp only [h2, ne_eq, not_true_eq_false, if_false, show ¬ (92 : UInt8) = 46 from by decide] at h ⊢
      match r with
      | [] => simp at h
      | [y] => by_cases g : digitU y = false <;> simp [g] at h ⊢
      | [y, z] => by_cases g : digitU y = false <;> simp [g] at h ⊢
      | y :: z :: u :: r3 =>
        by_cases g : digitU y = false
        · simp [g]
        by_cases g2 : digitU z = true ∧ digitU u = true
        · by_cases g3 : 255 < (y.toNat - 48) * 100 + (z.toNat - 48) * 10 + (u.toNat - 48)
          · simp [g, g2, g3] at h
          · simp [g, g2, g3]
        · simp [g, g2] at h
    · simp [h1, h2]

theorem scanM_fuel : ∀ (n : Nat) (l : List UInt8), l.length ≤ n → scanM n l = scan l := by
  intro n
  induction n using Nat.strongRecOn with
  | _ n ih =>
    intro l hl
    match l, n with
    | [], _ => simp [scanM, scan]
    | x :: r, 0 => simp at hl
    | x :: r, n + 1 =>
      unfold scan
      simp only [List.length_cons, scanM]
      by_cases h : (readM (x :: r)).2.2 = 0
      · have hs := readM_size (by simp) h
        have hd : ((x :: r).drop (readM (x :: r)).2.1).length ≤ r.length := by simp at hs ⊢; omega
        simp only [List.length_cons] at hl
        have e1 := ih n (by omega) _ (Nat.le_trans hd (by omega))
        rw [e1]
        by_cases hn : r.length = n
        · rw [hn, e1]
        · rw [ih r.length (by omega) _ hd]
      · simp [h]

theorem scanM_clean (n : Nat) (l : List UInt8) (h : (scanM n l).2 ≠ 0) : (scanM n l).1 = [] := by
  match n, l with
  | _, [] => simp [scanM]
  | 0, _ :: _ => simp [scanM]
  | n + 1, x :: r =>
    simp only [scanM] at h ⊢
    by_cases h1 : (readM (x :: r)).2.2 = 0
    · by_cases h2 : (scanM n ((x :: r).drop (readM (x :: r)).2.1)).2 = 0
      · simp [h1, h2] at h
      · simp [h1, h2]
    · simp [h1]
theorem join_nil (l : List UInt8) : scan l = join [] (scan l) := by
  unfold join
  by_cases h : (scan l).2 = 0
  · rw [if_pos h, List.nil_append, ← h]
  · rw [if_neg h, ← scanM_clean l.length l h]; rfl
theorem scan_nil : scan [] = ([], 0) := rfl
theorem scan_err {l : List UInt8} (h0 : l ≠ []) (h : (readM l).2.2 ≠ 0) : scan l = ([], (readM l).2.2) := by
  match l, h0 with
  | x :: r, _ => unfold scan; simp only [List.length_cons, scanM]; rw [if_neg h]
theorem scan_ok {l : List UInt8} (h0 : l ≠ []) (h : (readM l).2.2 = 0) : scan l = join [(readM l).1] (scan (l.drop (readM l).2.1)) := by
  match l, h0 with
  | x :: r, _ =>
    have hs := readM_size (l := x :: r) (by simp) h
    have hd : ((x :: r).drop (readM (x :: r)).2.1).length ≤ r.length := by simp at hs ⊢; omega
    have e : scan (x :: r) = scanM (r.length + 1) (x :: r) := rfl
    rw [e, scanM, if_pos h, scanM_fuel _ _ hd]
    unfold join; simp
theorem join_join (xs ys : List UInt8) (t : List UInt8 × Int) : join xs (join ys t) = join (xs ++ ys) t := by
  unfold join; by_cases h : t.2 = 0 <;> simp [h]

/-- The octets in the label that is read so far are no more than the bytes that were read. -/
theorem extract_drop (s : ByteArray) (k : Nat) : (s.extract k s.size).data.toList = s.data.toList.drop k := Lib.extract_to_end s k

def QW (W W' : World) : Prop := ∃ n, W' = W.drewN n
theorem QW.own {W W' : World} (h : QW W W') {base : Nat} {v : Value} {xs : List UInt8} (ho : OwnU8 W base v xs) : OwnU8 W' base v xs := by obtain ⟨n, rfl⟩ := h; exact ho
theorem QW.below {W W' : World} (h : QW W W') {B : Nat} {w : World} (hb : Below B w W) : Below B w W' := by obtain ⟨n, rfl⟩ := h; exact below_drewN hb n
theorem QW.size {W W' : World} (h : QW W W') : W'.heap.size = W.heap.size := by obtain ⟨n, rfl⟩ := h; rfl

def ParsePost (s : ByteArray) (w : World) (e : Ending) (w' : World) : Prop :=
  e = .returned (.tuple #[.string ⟨(parseM s.data.toList).1.toArray⟩, .int .i64 (parseM s.data.toList).2]) ∧ Below w.heap.size w w'
theorem parse_fin {s : ByteArray} {w w' : World} {e : Ending} (l : List UInt8) (er : Int) (h : parseM s.data.toList = (l, er)) (he : e = .returned (.tuple #[.string ⟨l.toArray⟩, .int .i64 er])) (hw : Below w.heap.size w w') : ParsePost s w e w' := by
  unfold ParsePost; rw [h]; exact ⟨he, hw⟩

end Go.Proofs.Ytckammgnmgkieaa

/-
  Contract of label.Split: a text, parted at its dots.
-/
namespace Go.Proofs.Ytckammgnmgkieaa
set_option maxRecDepth 20000
open Go.RowKit Go.Shelf

/-- How far a text is parted: where we are, where the part at hand begins, whether a stroke is ahead, the parts (from, to). -/
structure SpSt where
  at' : Nat
  start : Nat
  taken : Bool
  parts : List (Nat × Nat)
def spStep (t : SpSt) (c : UInt8) : SpSt :=
  if t.taken then ⟨t.at' + 1, t.start, false, t.parts⟩ else if c = 92 then ⟨t.at' + 1, t.start, true, t.parts⟩
  else if c = 46 then ⟨t.at' + 1, t.at' + 1, false, t.parts ++ [(t.start, t.at')]⟩ else ⟨t.at' + 1, t.start, false, t.parts⟩
def spRun (l : List UInt8) : SpSt := l.foldl spStep ⟨0, 0, false, []⟩
theorem spRun_snoc (l : List UInt8) (c : UInt8) : spRun (l ++ [c]) = spStep (spRun l) c := by simp [spRun]
theorem spRun_inv (l : List UInt8) : (spRun l).at' = l.length ∧ (spRun l).start ≤ l.length ∧ (spRun l).parts.length ≤ l.length := by
  suffices h : ∀ (l : List UInt8) (t : SpSt) (n : Nat), t.at' = n → t.start ≤ n → t.parts.length ≤ n → (l.foldl spStep t).at' = n + l.length ∧ (l.foldl spStep t).start ≤ n + l.length ∧ (l.foldl spStep t).parts.length ≤ n + l.length by
    have := h l ⟨0, 0, false, []⟩ 0 rfl (Nat.le_refl _) (Nat.le_refl _)
    unfold spRun; simp only [Nat.zero_add] at this; exact this
  intro l
  induction l with
  | nil => intro t n h1 h2 h3; simp [h1, h2, h3]
  | cons c l ih =>
    intro t n h1 h2 h3
    have := ih (spStep t c) (n + 1) (by unfold spStep; split <;> (try split) <;> (try split) <;> simp [h1]) (by unfold spStep; split <;> (try split) <;> (try split) <;> simp <;> omega) (by unfold spStep; split <;> (try split) <;> (try split) <;> simp <;> omega)
    simp only [List.foldl_cons, List.length_cons]
    obtain ⟨a, b, d⟩ := this
    exact ⟨by omega, by omega, by omega⟩
def piece (s : List UInt8) (p : Nat × Nat) : List UInt8 := (s.take p.2).drop p.1
def splitM (s : List UInt8) : List (List UInt8) × Int :=
  if (spRun s).taken then ([], 2) else ((spRun s).parts.map (piece s) ++ [s.drop (spRun s).start], 0)

theorem spStep_taken {t : SpSt} {c : UInt8} (h : t.taken = true) : spStep t c = ⟨t.at' + 1, t.start, false, t.parts⟩ := by simp [spStep, h]
theorem spStep_stroke {t : SpSt} {c : UInt8} (h : t.taken = false) (h2 : ((c.toNat : Int) == 92) = true) : spStep t c = ⟨t.at' + 1, t.start, true, t.parts⟩ := by
  have : c = 92 := u8_is (n := 92) (by omega) h2
  simp [spStep, h, this]
theorem spStep_dot {t : SpSt} {c : UInt8} (h : t.taken = false) (h3 : ((c.toNat : Int) == 46) = true) : spStep t c = ⟨t.at' + 1, t.at' + 1, false, t.parts ++ [(t.start, t.at')]⟩ := by
  have : c = 46 := u8_is (n := 46) (by omega) h3
  simp [spStep, h, this]
theorem spStep_other {t : SpSt} {c : UInt8} (h : t.taken = false) (h2 : ((c.toNat : Int) == 92) = false) (h3 : ((c.toNat : Int) == 46) = false) : spStep t c = ⟨t.at' + 1, t.start, false, t.parts⟩ := by
  have e1 : c ≠ 92 := u8_isnt (n := 92) (by omega) h2
  have e2 : c ≠ 46 := u8_isnt (n := 46) (by omega) h3
  simp [spStep, h, e1, e2]

/-- The parts that are made. -/
def spParts (s : ByteArray) (pre : List UInt8) : List (List UInt8) := (spRun pre).parts.map (piece s.data.toList)

/-- The boxes of a call of Split, and what they hold. -/
def SpG (s : ByteArray) (w : World) (parts : List (List UInt8)) (start at' : Int) (taken : Bool) (W : World) : Prop :=
  Boxed W w.heap.size 9 (.string s) ∧ GBox 9 22 strV (w.heap.size + 1) (w.heap.size + 6) parts W ∧ Boxed W (w.heap.size + 1 + 1) 3 (.int .i64 start) ∧
  Boxed W (w.heap.size + 1 + 1 + 1) 3 (.int .i64 at') ∧ Boxed W (w.heap.size + 1 + 1 + 1 + 1) 4 (.bool taken) ∧ Boxed W (w.heap.size + 1 + 1 + 1 + 1 + 1) 9 (.string s) ∧ Below w.heap.size w W
def SpInv (s : ByteArray) (w : World) (pre : List UInt8) (W : World) : Prop := SpG s w (spParts s pre) ((spRun pre).start : Int) (pre.length : Int) (spRun pre).taken W
/-- What a step of a round has done. -/
def SpTo (s : ByteArray) (w W : World) (parts : List (List UInt8)) (start at' : Int) (taken : Bool) (W' : World) : Prop :=
  KeepsOthers W W' ∧ KeepB (w.heap.size + 1 + 1 + 1 + 1 + 1) W W' ∧ SpG s w parts start at' taken W'
section
variable {s : ByteArray} {w W X : World} {parts : List (List UInt8)} {start at' : Int} {taken : Bool}
theorem SpTo.setTaken (h : SpTo s w W parts start at' taken X) (b : Bool) : SpTo s w W parts start at' b (X.setCell ⟨w.heap.size + 1 + 1 + 1 + 1, 0, none⟩ (.bool b)) := by
  obtain ⟨k1, k2, h0, h1, h2, h3, h4, h5, hB⟩ := h
  exact ⟨k1.trans (KeepsOthers.setCell _ _ _), k2.trans (KeepB.setCell _ _ (by omega)), h0.other (by omega) _, h1.setOther h4 (by decide) (by omega) _, h2.other (by omega) _, h3.other (by omega) _, h4.set _, h5.other (by omega) _, hB.trans ((Below.refl _ _).setCell (p := ⟨w.heap.size + 1 + 1 + 1 + 1, 0, none⟩) (by simp; omega) _)⟩
theorem SpTo.setAt (h : SpTo s w W parts start at' taken X) (n : Int) : SpTo s w W parts start n taken (X.setCell ⟨w.heap.size + 1 + 1 + 1, 0, none⟩ (.int .i64 n)) := by
  obtain ⟨k1, k2, h0, h1, h2, h3, h4, h5, hB⟩ := h
  exact ⟨k1.trans (KeepsOthers.setCell _ _ _), k2.trans (KeepB.setCell _ _ (by omega)), h0.other (by omega) _, h1.setOther h3 (by decide) (by omega) _, h2.other (by omega) _, h3.set _, h4.other (by omega) _, h5.other (by omega) _, hB.trans ((Below.refl _ _).setCell (p := ⟨w.heap.size + 1 + 1 + 1, 0, none⟩) (by simp; omega) _)⟩
theorem SpTo.setStart (h : SpTo s w W parts start at' taken X) (n : Int) : SpTo s w W parts n at' taken (X.setCell ⟨w.heap.size + 1 + 1, 0, none⟩ (.int .i64 n)) := by
  obtain ⟨k1, k2, h0, h1, h2, h3, h4, h5, hB⟩ := h
  exact ⟨k1.trans (KeepsOthers.setCell _ _ _), k2.trans (KeepB.setCell _ _ (by omega)), h0.other (by omega) _, h1.setOther h2 (by decide) (by omega) _, h2.set _, h3.other (by omega) _, h4.other (by omega) _, h5.other (by omega) _, hB.trans ((Below.refl _ _).setCell (p := ⟨w.heap.size + 1 + 1, 0, none⟩) (by simp; omega) _)⟩
theorem SpTo.box1 (h : SpTo s w W parts start at' taken X) {u : Value} (hu : Boxed X (w.heap.size + 1) 22 u) (ho : OwnG 9 strV X (w.heap.size + 6) u parts) {w1 : World} (hg : X.grownBy w1 u.ownBlock) : Boxed w1 (w.heap.size + 1) 22 u := by
  have := h.1; exact hu.kept hg (fun e => by have := ho.base_le _ e.symm; omega)
theorem SpTo.box2 (h : SpTo s w W parts start at' taken X) {u : Value} (ho : OwnG 9 strV X (w.heap.size + 6) u parts) {w1 : World} (hg : X.grownBy w1 u.ownBlock) : Boxed w1 (w.heap.size + 1 + 1) 3 (.int .i64 start) :=
  h.2.2.2.2.1.kept hg (fun e => by have := ho.base_le _ e.symm; omega)
theorem SpTo.box3 (h : SpTo s w W parts start at' taken X) {u : Value} (ho : OwnG 9 strV X (w.heap.size + 6) u parts) {w1 : World} (hg : X.grownBy w1 u.ownBlock) : Boxed w1 (w.heap.size + 1 + 1 + 1) 3 (.int .i64 at') :=
  h.2.2.2.2.2.1.kept hg (fun e => by have := ho.base_le _ e.symm; omega)
theorem SpTo.app (h : SpTo s w W parts start at' taken X) {u v' : Value} (hu : Boxed X (w.heap.size + 1) 22 u) (ho : OwnG 9 strV X (w.heap.size + 6) u parts) (hbase : w.heap.size + 6 ≤ X.heap.size) {w1 : World} {p2 : List (List UInt8)} (ho' : OwnG 9 strV w1 (w.heap.size + 6) v' p2) (hg : X.grownBy w1 u.ownBlock) :
    SpTo s w W p2 start at' taken (w1.setCell ⟨w.heap.size + 1, 0, none⟩ v') := by
  obtain ⟨k1, k2, h0, _, h2, h3, h4, h5, hB⟩ := h
  obtain ⟨_, g2, g3, g4, g5⟩ := gboxed_appends2 (n₀ := w.heap.size) (by decide) hu ho (by omega) (by omega) hbase ho' hg
  exact ⟨k1.trans g3, k2.trans (g5 _ (by omega) (by omega)), boxed_keep (g5 _ (by omega) (by omega)) h0, g2, boxed_keep (g5 _ (by omega) (by omega)) h2, boxed_keep (g5 _ (by omega) (by omega)) h3, boxed_keep (g5 _ (by omega) (by omega)) h4, boxed_keep (g5 _ (by omega) (by omega)) h5, hB.trans g4⟩
theorem SpTo.drew (h : SpTo s w W parts start at' taken X) : SpTo s w W parts start at' taken X.drew := by
  obtain ⟨k1, k2, h0, h1, h2, h3, h4, h5, hB⟩ := h
  exact ⟨k1.trans (KeepsOthers.drew _), k2, h0, h1, h2, h3, h4, h5, hB.drew⟩
theorem SpTo.fin {pre : List UInt8} {c : UInt8} {B : Nat} {p2 : List (List UInt8)} {st2 at2 : Int} {tk2 : Bool} (h : SpTo s w W p2 st2 at2 tk2 X) (e1 : spParts s (pre ++ [c]) = p2) (e2 : ((spRun (pre ++ [c])).start : Int) = st2) (e3 : ((pre ++ [c]).length : Int) = at2) (e4 : (spRun (pre ++ [c])).taken = tk2) :
    KeepsFrom B W X ∧ KeepB (w.heap.size + 1 + 1 + 1 + 1 + 1) W X ∧ SpInv s w (pre ++ [c]) X := by
  subst e1 e2 e3 e4; exact ⟨h.1.from _, h.2.1, h.2.2⟩
end

def SplitPost (s : ByteArray) (w : World) (e : Ending) (w' : World) : Prop :=
  ∃ v, e = .returned (.tuple #[v, .int .i64 (splitM s.data.toList).2]) ∧ OwnG 9 strV w' w.heap.size v (splitM s.data.toList).1 ∧ Below w.heap.size w w'

theorem split_fin {s : ByteArray} {w w' : World} {e : Ending} {v : Value} (l : List (List UInt8)) (er : Int) (h : splitM s.data.toList = (l, er)) (he : e = .returned (.tuple #[v, .int .i64 er])) (ho : OwnG 9 strV w' w.heap.size v l) (hw : Below w.heap.size w w') : SplitPost s w e w' := by
  unfold SplitPost; rw [h]; exact ⟨v, he, ho, hw⟩

section
attribute [local go_sem] Oper.semAt_some
end

end Go.Proofs.Ytckammgnmgkieaa

/-
  Package name's iterators: labels (from the first label on), upward (from the root's side on). An element is an index of the name.
-/
namespace Go.Proofs.Ytckammgnmgkieaa
set_option maxRecDepth 20000
open Go.RowKit Go.Shelf

/-- The block of a slice's cells (of none, if it has none). -/
def rowOf : Value → Option Nat
  | .slice (some a) (_ + 1) _ => some a.block
  | _ => none
theorem rowOf_at {a : Addr} {n c k : Nat} (h : k < n) : rowOf (.slice (some a) n c) = some a.block := by
  cases n with
  | zero => omega
  | succ n => rfl
theorem StrsAt.row_lt {W : World} {v : Value} {xs : List (List UInt8)} (h : StrsAt W v xs) : ∀ g, rowOf v = some g → g < W.heap.size := by
  obtain ⟨a, c, rfl, hx⟩ := h
  intro g hg
  rcases hx with e | ⟨b, off, rfl, hb, _⟩
  · subst e; cases a <;> cases hg
  · cases xs with
    | nil => cases hg
    | cons x r => cases hg; exact hb
/-- What a round must keep: the box of the variable, the cells. -/
def KeepN (b : Nat) (v : Value) (W W' : World) : Prop := KeepB b W W' ∧ ∀ g, rowOf v = some g → KeepB g W W'
theorem KeepN.refl (b : Nat) (v : Value) (W : World) : KeepN b v W W := ⟨KeepB.refl _ _, fun _ _ => KeepB.refl _ _⟩
theorem KeepN.trans {b : Nat} {v : Value} {A B C : World} (h : KeepN b v A B) (k : KeepN b v B C) : KeepN b v A C := ⟨h.1.trans k.1, fun g e => (h.2 g e).trans (k.2 g e)⟩
/-- A slice of strings that lies below a mark. -/
def StrsIn (n₀ : Nat) (W : World) (v : Value) (xs : List (List UInt8)) : Prop :=
  ∃ a c, v = .slice a xs.length c ∧ (xs = [] ∨ ∃ b off, a = some ⟨b, off, none⟩ ∧ b < n₀ ∧ ∀ j (hj : j < xs.length), W.cell? ⟨b, off + j, none⟩ = some (strV xs[j]))
theorem StrsAt.in {W : World} {v : Value} {xs : List (List UInt8)} (h : StrsAt W v xs) : StrsIn W.heap.size W v xs := h

theorem KeepN.setCell {b c : Nat} {v : Value} (W : World) (u : Value) (hb : b ≠ c) (hg : ∀ g, rowOf v = some g → g ≠ c) : KeepN b v W (W.setCell ⟨c, 0, none⟩ u) := ⟨KeepB.setCell _ _ hb, fun g e => KeepB.setCell _ _ (hg g e)⟩
theorem KeepN.alloc {b : Nat} {v : Value} (W : World) (o : Obj) (hb : b < W.heap.size) (hg : ∀ g, rowOf v = some g → g < W.heap.size) : KeepN b v W (W.alloc o) := ⟨KeepB.alloc _ _ hb, fun g e => KeepB.alloc _ _ (hg g e)⟩
theorem KeepN.below {b n : Nat} {v : Value} {W W' : World} (h : Below n W W') (hb : b < n) (hg : ∀ g, rowOf v = some g → g < n) : KeepN b v W W' := ⟨h.block b hb, fun g e => h.block g (hg g e)⟩
theorem keepN_t {b : Nat} {v : Value} {A B C : World} (h : KeepN b v A B) (k : KeepN b v B C) : KeepN b v A C := h.trans k
theorem keepN_b {b : Nat} {v : Value} {w : World} (hb : b < w.heap.size) (hg : ∀ g, rowOf v = some g → g < w.heap.size) (W : World) (l : Nat) (o o' : Obj) (hl : w.heap.size ≤ l) (h : W.heap[l]? = some o) (h1 : o.isCells = false) (h2 : o.isWalk = false) : KeepN b v W (W.putObj l o') :=
  ⟨keepB_b hb W l o o' hl h h1 h2, fun g e => keepB_b (hg g e) W l o o' hl h h1 h2⟩
theorem KeepN.strs {b : Nat} {v : Value} {xs : List (List UInt8)} {W W' : World} (h : KeepN b v W W') (hA : StrsAt W v xs) (hs : W.heap.size ≤ W'.heap.size) : StrsAt W' v xs := by
  obtain ⟨a, c, rfl, hx⟩ := hA
  refine ⟨a, c, rfl, ?_⟩
  rcases hx with e | ⟨g, off, rfl, hg, hc⟩
  · exact .inl e
  · exact .inr ⟨g, off, rfl, Nat.lt_of_lt_of_le hg hs, fun j hj => ((h.2 g (rowOf_at hj)).cell).trans (hc j hj)⟩

def idxV (xs : List (List UInt8)) (j : Fin xs.length) : Array Value := #[.int .i64 (j.val : Int), strV xs[j]]

section
attribute [local go_sem] Oper.semAt_some

theorem finRange_take_succ {n k : Nat} (h : k < n) : (List.finRange n).take (k + 1) = (List.finRange n).take k ++ [⟨k, h⟩] := by
  rw [List.take_succ_eq_append_getElem (by simpa using h)]; simp

set_option maxRecDepth 100000 in
set_option maxHeartbeats 1000000 in
theorem labels1_in (n : Nat) (hn : 1 ≤ n) (l b : Nat) (v : Value) (xs : List (List UInt8)) (hs : xs.length ≤ maxLen) (J Jx : List (Fin xs.length) → World → Prop)
    (hY : ∀ pre x W, J pre W → pre.length < xs.length → YieldAt Fence.wide (n - 1) Try.prog l (idxV xs x) W fun e W' =>
      (e = .returned (.bool true) ∧ J (pre ++ [x]) W' ∧ KeepN b v W W') ∨ (e = .returned (.bool false) ∧ Jx (pre ++ [x]) W'))
    (W : World) (hc : W.cell? ⟨b, 0, none⟩ = some v) (hA : ∃ a c, v = .slice a xs.length c ∧ (xs = [] ∨ ∃ g off, a = some ⟨g, off, none⟩ ∧ ∀ j (hj : j < xs.length), W.cell? ⟨g, off + j, none⟩ = some (strV xs[j]))) (h0 : J [] W) :
    CallsIn Fence.wide n Try.prog 53 #[.func (.yield l) #[] #[], .pointer (some ⟨b, 0, none⟩)] W fun e W' => (∃ v, e = .returned v) ∧
      ((∃ ys, ys = List.finRange xs.length ∧ J ys W') ∨ (∃ pre, pre <+: List.finRange xs.length ∧ Jx pre W')) := by
  unfold maxLen at hs
  obtain ⟨a, c, rfl, hx⟩ := hA
  refine callsIn_of_wp Try.func53 rfl trivial ?_ rfl
  simp only [Try.ntmps53, List.size_toArray, List.length_cons, List.length_nil, Nat.reduceAdd, Nat.reduceSub, Array.replicate_succ, Array.replicate_zero, List.push_toArray, List.append_toArray, List.nil_append, List.cons_append]
  gi_wp2
  gi_loopw [7] (fun i wr => ∃ k : Nat, k ≤ xs.length ∧ i = .int .i64 k ∧ J ((List.finRange xs.length).take k) wr ∧ KeepN b (.slice a xs.length c) W wr)
    (fun i _ => xs.length - (intOf i).toNat)
  case atStart => exact ⟨0, Nat.zero_le _, rfl, h0, KeepN.refl _ _ _⟩
  case round =>
    obtain ⟨k, hk, rfl, hJs, hnx⟩ := hrel
    by_cases hlt : k < xs.length
    · rcases hx with e | ⟨g, off, rfl, hcells⟩
      · subst e; simp at hlt
      have hcell : wr.cell? ⟨g, off + k, none⟩ = some (strV xs[k]) := ((hnx.2 g (rowOf_at hlt)).cell).trans (hcells k hlt)
      obtain ⟨fn, tmps, assign, body, hy, hR⟩ := hY _ ⟨k, hlt⟩ wr hJs (by simp; omega)
      have hcb : wr.cell? ⟨b, 0, none⟩ = some (.slice (some ⟨g, off, none⟩) xs.length c) := hnx.1.cell.trans hc
      unfold idxV at hy
      generalize hsv : strV xs[k] = sv at *
      dsimp only at hy
      clear hcells hsv
      gi_wp2
      refine hR.mono ?_
      rintro e W3 (⟨rfl, hJ3, hk3⟩ | ⟨rfl, hJx3⟩)
      · gi_wp2
        go_roundw
        case rel => exact ⟨k + 1, by omega, by simp, by rw [finRange_take_succ hlt]; exact hJ3, hnx.trans hk3⟩
        case measure => simp [intOf]; omega
      · gi_wp2
        refine bodyPost_ret (results_none rfl _ _ _) rfl ?_
        exact ⟨⟨_, rfl⟩, .inr ⟨_, by rw [← finRange_take_succ hlt]; exact List.take_prefix _ _, hJx3⟩⟩
    · obtain rfl : k = xs.length := by omega
      gi_wp2
      go_end0
      exact ⟨⟨_, rfl⟩, .inl ⟨_, by rw [List.take_of_length_le (by simp)], hJs⟩⟩

theorem finRev_succ {n k : Nat} (h : k < n) : (List.finRange n).reverse.take (n - k) = (List.finRange n).reverse.take (n - (k + 1)) ++ [⟨k, h⟩] := by
  rw [show n - k = n - (k + 1) + 1 by omega, List.take_succ_eq_append_getElem (by simp; omega)]
  congr 1
  simp only [List.getElem_reverse, List.length_finRange, List.getElem_finRange, List.cons.injEq, and_true]
  apply Fin.ext; simp; omega

set_option maxRecDepth 100000 in
set_option maxHeartbeats 1000000 in
theorem upward1_in (n : Nat) (hn : 1 ≤ n) (l b : Nat) (v : Value) (xs : List (List UInt8)) (hs : xs.length ≤ maxLen) (J Jx : List (Fin xs.length) → World → Prop)
    (hY : ∀ pre x W, J pre W → pre.length < xs.length → YieldAt Fence.wide (n - 1) Try.prog l (idxV xs x) W fun e W' =>
      (e = .returned (.bool true) ∧ J (pre ++ [x]) W' ∧ KeepN b v W W') ∨ (e = .returned (.bool false) ∧ Jx (pre ++ [x]) W'))
    (W : World) (hc : W.cell? ⟨b, 0, none⟩ = some v) (hA : ∃ a c, v = .slice a xs.length c ∧ (xs = [] ∨ ∃ g off, a = some ⟨g, off, none⟩ ∧ ∀ j (hj : j < xs.length), W.cell? ⟨g, off + j, none⟩ = some (strV xs[j]))) (h0 : J [] W) :
    CallsIn Fence.wide n Try.prog 70 #[.func (.yield l) #[] #[], .pointer (some ⟨b, 0, none⟩)] W fun e W' => (∃ v, e = .returned v) ∧
      ((∃ ys, ys = (List.finRange xs.length).reverse ∧ J ys W') ∨ (∃ pre, pre <+: (List.finRange xs.length).reverse ∧ Jx pre W')) := by
  unfold maxLen at hs
  obtain ⟨a, c, rfl, hx⟩ := hA
  refine callsIn_of_wp Try.func70 rfl trivial ?_ rfl
  simp only [Try.ntmps70, List.size_toArray, List.length_cons, List.length_nil, Nat.reduceAdd, Nat.reduceSub, Array.replicate_succ, Array.replicate_zero, List.push_toArray, List.append_toArray, List.nil_append, List.cons_append]
  gi_wp2
  gi_loopw [3] (fun i wr => ∃ k : Nat, k ≤ xs.length ∧ i = .int .i64 ((k : Int) - 1) ∧ J ((List.finRange xs.length).reverse.take (xs.length - k)) wr ∧ KeepN b (.slice a xs.length c) W wr)
    (fun i _ => (intOf i + 1).toNat)
  case atStart => exact ⟨xs.length, Nat.le_refl _, rfl, by simpa using h0, KeepN.refl _ _ _⟩
  case round =>
    obtain ⟨k, hk, rfl, hJs, hnx⟩ := hrel
    rcases k with _ | k
    · gi_wp2
      go_end0
      exact ⟨⟨_, rfl⟩, .inl ⟨_, by rw [List.take_of_length_le (by simp)], hJs⟩⟩
    · have hlt : k < xs.length := hk
      rcases hx with e | ⟨g, off, rfl, hcells⟩
      · subst e; simp at hlt
      have hcell : wr.cell? ⟨g, off + k, none⟩ = some (strV xs[k]) := ((hnx.2 g (rowOf_at hlt)).cell).trans (hcells k hlt)
      obtain ⟨fn, tmps, assign, body, hy, hR⟩ := hY _ ⟨k, hlt⟩ wr hJs (by simp; omega)
      have hcb : wr.cell? ⟨b, 0, none⟩ = some (.slice (some ⟨g, off, none⟩) xs.length c) := hnx.1.cell.trans hc
      have hk1 : ((k + 1 : Nat) : Int) - 1 = (k : Int) := by omega
      rw [hk1]
      unfold idxV at hy
      generalize hsv : strV xs[k] = sv at *
      dsimp only at hy
      clear hcells hsv hk1
      gi_wp2
      refine hR.mono ?_
      rintro e W3 (⟨rfl, hJ3, hk3⟩ | ⟨rfl, hJx3⟩)
      · gi_wp2
        go_roundw
        case rel => exact ⟨k, by omega, by go_num, by rw [finRev_succ hlt]; exact hJ3, hnx.trans hk3⟩
        case measure => simp [intOf]
      · gi_wp2
        refine bodyPost_ret (results_none rfl _ _ _) rfl ?_
        exact ⟨⟨_, rfl⟩, .inr ⟨_, by rw [← finRev_succ hlt]; exact List.take_prefix _ _, hJx3⟩⟩

theorem labels_stops (n : Nat) (hn : 1 ≤ n) (b : Nat) (v : Value) (xs : List (List UInt8)) (hs : xs.length ≤ maxLen) (w : World) (hb : b < w.heap.size)
    (hc : w.cell? ⟨b, 0, none⟩ = some v) (hA : StrsAt w v xs) :
    SeqStopsK Fence.wide n Try.prog 53 #[.pointer (some ⟨b, 0, none⟩)] (idxV xs) (KeepN b v) (fun ys => ys = List.finRange xs.length) (fun pre => pre <+: List.finRange xs.length) xs.length w := fun l J Jx W hW _ _ hY h0 => by
  refine labels1_in n hn l b v xs hs J Jx hY W ((hW.cell (p := ⟨b, 0, none⟩) hb).trans hc) ?_ h0
  obtain ⟨a, c, e, h⟩ := hA
  exact ⟨a, c, e, h.imp id fun ⟨g, off, ea, hg, hcs⟩ => ⟨g, off, ea, fun j hj => (hW.cell (p := ⟨g, off + j, none⟩) hg).trans (hcs j hj)⟩⟩
theorem upward_stops (n : Nat) (hn : 1 ≤ n) (b : Nat) (v : Value) (xs : List (List UInt8)) (hs : xs.length ≤ maxLen) (w : World) (hb : b < w.heap.size)
    (hc : w.cell? ⟨b, 0, none⟩ = some v) (hA : StrsAt w v xs) :
    SeqStopsK Fence.wide n Try.prog 70 #[.pointer (some ⟨b, 0, none⟩)] (idxV xs) (KeepN b v) (fun ys => ys = (List.finRange xs.length).reverse) (fun pre => pre <+: (List.finRange xs.length).reverse) xs.length w := fun l J Jx W hW _ _ hY h0 => by
  refine upward1_in n hn l b v xs hs J Jx hY W ((hW.cell (p := ⟨b, 0, none⟩) hb).trans hc) ?_ h0
  obtain ⟨a, c, e, h⟩ := hA
  exact ⟨a, c, e, h.imp id fun ⟨g, off, ea, hg, hcs⟩ => ⟨g, off, ea, fun j hj => (hW.cell (p := ⟨g, off + j, none⟩) hg).trans (hcs j hj)⟩⟩

set_option maxHeartbeats 400000 in
theorem name_labels (a : Option Addr) (n c : Nat) (w : World) :
    Calls Try.prog 27 #[.slice a n c] w fun e w' => e = .returned (.func (.func 53) #[] #[.pointer (some ⟨w.heap.size, 0, none⟩)]) ∧ w' = w.alloc (.cells #[.slice a n c] 23) := by
  go_enter Try.func27, Try.ntmps27
  go_wp2
  go_ret
  exact ⟨rfl, rfl⟩
set_option maxHeartbeats 400000 in
theorem name_upward (a : Option Addr) (n c : Nat) (w : World) :
    Calls Try.prog 50 #[.slice a n c] w fun e w' => e = .returned (.func (.func 70) #[] #[.pointer (some ⟨w.heap.size, 0, none⟩)]) ∧ w' = w.alloc (.cells #[.slice a n c] 23) := by
  go_enter Try.func50, Try.ntmps50
  go_wp2
  go_ret
  exact ⟨rfl, rfl⟩
end
end Go.Proofs.Ytckammgnmgkieaa

/-
  The document's labels, said a second time (package toponymref6): CheckLabel, Digit, order, FoldLabel, CompareLabel, special, escaped, LabelText: the same functions on octets.
-/
namespace Go.Proofs.Ytckammgnmgkieaa
set_option maxRecDepth 20000
open Go.RowKit Go.Shelf

set_option maxHeartbeats 400000 in
theorem ref_CheckLabel (s : ByteArray) (w : World) (hs : s.size ≤ maxLen) :
    Calls Try.prog 54 #[.string s] w fun e w' => e = .returned (.int .i64 (checkLabelM s.data.toList)) ∧ w = w' := by
  unfold maxLen at hs
  go_enter Try.func54, Try.ntmps54
  go_wp2
  all_goals go_ret
  all_goals refine ⟨ret_int ?_, rfl⟩
  · have := isEmpty_true (by assumption); show 8 = _; simp [checkLabelM, this]
  · have h1 := isEmpty_false (by assumption); have h2 : 63 < (s.size : Int) := by assumption
    have h3 : 63 < s.data.toList.length := by rw [show s.data.toList.length = s.size from rfl]; omega
    show 3 = _; rw [checkLabelM, if_neg h1, if_pos h3]
  · have h1 := isEmpty_false (by assumption); have h2 : (s.size : Int) ≤ 63 := by assumption
    have h3 : ¬ 63 < s.data.toList.length := by rw [show s.data.toList.length = s.size from rfl]; omega
    show 0 = _; rw [checkLabelM, if_neg h1, if_neg h3]

def orderM (a b : List UInt8) : Int := if Op.bytesLess a b then -1 else if a = b then 0 else 1

def memB (c : UInt8) (l : List UInt8) : Bool := decide (c ∈ l)

theorem special_is (c : UInt8) : memB c (⟨#[46, 92, 34, 40, 41, 59, 64, 36]⟩ : ByteArray).data.toList = specialU c := by
  unfold specialU memB
  congr 1
  apply propext
  simp only [List.mem_cons, List.not_mem_nil, or_false]
  have h : ∀ n : UInt8, c = n ↔ c.toNat = n.toNat := fun n => UInt8.toNat_inj.symm
  simp only [h]
  rfl

theorem esc_str (c : UInt8) : (⟨(octetEsc c).toArray⟩ : ByteArray) = ⟨#[92]⟩ ++ ⟨#[48 + c / 100, 48 + c / 10 % 10, 48 + c % 10]⟩ := by
  rw [ByteArray.mk_append_mk]; rfl

theorem foldAt (s : ByteArray) (k j : Nat) (hj : j < s.size) (x : UInt8) (hx : ((s.data.toList.take k).map smallU ++ s.data.toList.drop k)[j]? = some x) :
    (j < k → x = smallU s[j]) ∧ (k ≤ j → x = s[j]) := by
  have hl : s.data.toList.length = s.size := rfl
  have hg : s.data.toList[j]? = some s[j] := Lib.data_getElem? s j hj
  constructor
  · intro h
    rw [List.getElem?_append_left (by simp; omega), List.getElem?_map, List.getElem?_take, if_pos h, hg] at hx
    exact (Option.some.inj hx).symm
  · intro h
    by_cases hk : k ≤ s.size
    · rw [List.getElem?_append_right (by simp; omega), List.getElem?_drop] at hx
      have e : k + (j - ((s.data.toList.take k).map smallU).length) = j := by simp; omega
      rw [e, hg] at hx
      exact (Option.some.inj hx).symm
    · omega

/-- The row of bytes that FoldLabel turns, when k of them are folded. -/
def FoldRow (s : ByteArray) (g : Nat) (k : Nat) (W : World) : Prop :=
  ∀ j (hj : j < s.size), W.cell? ⟨g, j, none⟩ = some (bv (if j < k then smallU s[j] else s[j])) ∧ W.frozen? ⟨g, j, none⟩ = false

/-! ### order and the comparing of folded labels -/

theorem bytesLess_cons (x y : UInt8) (a b : List UInt8) : Op.bytesLess (x :: a) (y :: b) = (decide (x < y) || (x == y && Op.bytesLess a b)) := rfl

theorem order_compare : ∀ (a b : List UInt8), orderM (foldL a) (foldL b) = compareM a b
  | [], [] => rfl
  | [], _ :: _ => rfl
  | _ :: _, [] => rfl
  | x :: a, y :: b => by
    have ih := order_compare a b
    unfold orderM at ih ⊢
    simp only [foldL, List.map_cons, bytesLess_cons] at ih ⊢
    by_cases h : smallU x = smallU y
    · have h1 : ¬ smallU x < smallU y := by rw [h]; exact UInt8.lt_irrefl _
      simp only [compareM, h, if_true]
      rw [← ih]
      simp only [UInt8.lt_irrefl, decide_false, Bool.false_or, beq_self_eq_true, Bool.true_and, List.cons.injEq, true_and]
      congr
    · simp only [compareM, h, if_false, List.cons.injEq, false_and]
      unfold cmpI
      have hn : (smallU x).toNat ≠ (smallU y).toNat := fun e => h (UInt8.toNat_inj.1 e)
      by_cases hlt : smallU x < smallU y
      · have : ((smallU x).toNat : Int) < (smallU y).toNat := by rw [UInt8.lt_iff_toNat_lt] at hlt; omega
        simp [hlt, this]
      · have h2 : ¬ ((smallU x).toNat : Int) < (smallU y).toNat := by rw [UInt8.lt_iff_toNat_lt] at hlt; omega
        have h3 : ((smallU y).toNat : Int) < (smallU x).toNat := by omega
        have h4 : (smallU x == smallU y) = false := by simpa using h
        simp [hlt, h2, h3, h4]

/-! ### LabelText -/
theorem ba_ext {a b : ByteArray} (h : a.data.toList = b.data.toList) : a = b := by
  obtain ⟨⟨a⟩⟩ := a; obtain ⟨⟨b⟩⟩ := b; simp at h; rw [h]
theorem mk_append (a b : List UInt8) : (⟨a.toArray⟩ : ByteArray) ++ ⟨b.toArray⟩ = ⟨(a ++ b).toArray⟩ := by
  rw [ByteArray.mk_append_mk]
theorem extract_one (s : ByteArray) (k : Nat) (h : k < s.size) : s.extract k (k + 1) = ⟨#[s[k]]⟩ := by
  apply ba_ext
  have h1 : (s.extract k (k + 1)).data.toList = (s.data.toList.take (k + 1)).drop k := by simp [ByteArray.data_extract, List.drop_take]
  rw [h1, take_snoc_get s k h, List.drop_left' (by simp; omega)]

end Go.Proofs.Ytckammgnmgkieaa

/-
  Plain facts on labels: the order, letters great and small, words and back.
-/
namespace Go.Proofs.Ytckammgnmgkieaa
set_option maxRecDepth 20000
open Go.RowKit Go.Shelf

theorem smallU_idem (c : UInt8) : smallU (smallU c) = smallU c := by
  unfold smallU
  by_cases h : 65 ≤ c.toNat ∧ c.toNat ≤ 90
  · rw [if_pos h, if_neg]
    rw [UInt8.toNat_add]; simp; omega
  · rw [if_neg h, if_neg h]
theorem cmpI_cases (a b : Int) : (cmpI a b = -1 ∧ a < b) ∨ (cmpI a b = 0 ∧ a = b) ∨ (cmpI a b = 1 ∧ b < a) := by
  unfold cmpI
  by_cases h : a < b
  · left; rw [if_pos h]; exact ⟨rfl, h⟩
  · by_cases h2 : b < a
    · right; right; rw [if_neg h, if_pos h2]; exact ⟨rfl, h2⟩
    · right; left; rw [if_neg h, if_neg h2]; exact ⟨rfl, by omega⟩
theorem compareM_range : ∀ a b : List UInt8, compareM a b = -1 ∨ compareM a b = 0 ∨ compareM a b = 1
  | [], [] => by simp [compareM]
  | [], _ :: _ => by simp [compareM]
  | _ :: _, [] => by simp [compareM]
  | x :: a, y :: b => by
    by_cases h : smallU x = smallU y
    · simp only [compareM, h, if_true]; exact compareM_range a b
    · simp only [compareM, h, if_false]; have := cmpI_cases (smallU x).toNat (smallU y).toNat; omega
theorem compareM_swap : ∀ a b : List UInt8, compareM b a = - compareM a b
  | [], [] => by simp [compareM]
  | [], _ :: _ => by simp [compareM]
  | _ :: _, [] => by simp [compareM]
  | x :: a, y :: b => by
    by_cases h : smallU x = smallU y
    · simp only [compareM, h, if_true]; exact compareM_swap a b
    · simp only [compareM, h, if_false, Ne.symm h]
      have h1 := cmpI_cases (smallU x).toNat (smallU y).toNat
      have h2 := cmpI_cases (smallU y).toNat (smallU x).toNat
      omega
theorem compareM_zero : ∀ a b : List UInt8, compareM a b = 0 ↔ foldL a = foldL b
  | [], [] => by simp [compareM, foldL]
  | [], _ :: _ => by simp [compareM, foldL]
  | _ :: _, [] => by simp [compareM, foldL]
  | x :: a, y :: b => by
    have ih := compareM_zero a b
    by_cases h : smallU x = smallU y
    · simp only [compareM, h, if_true, ih, foldL, List.map_cons, List.cons.injEq, true_and]
    · have hn : (smallU x).toNat ≠ (smallU y).toNat := fun e => h (UInt8.toNat_inj.1 e)
      have h1 := cmpI_cases (smallU x).toNat (smallU y).toNat
      simp only [compareM, h, if_false, foldL, List.map_cons, List.cons.injEq, false_and, iff_false]
      omega
theorem compareM_foldl : ∀ a b : List UInt8, compareM (foldL a) b = compareM a b
  | [], [] => rfl
  | [], _ :: _ => rfl
  | _ :: _, [] => rfl
  | x :: a, y :: b => by
    have ih := compareM_foldl a b
    simp only [foldL, List.map_cons, compareM, smallU_idem] at ih ⊢
    rw [ih]
theorem compareM_trans : ∀ a b c : List UInt8, compareM a b ≤ 0 → compareM b c ≤ 0 → compareM a c ≤ 0
  | [], _, [] => by simp [compareM]
  | [], _, _ :: _ => by simp [compareM]
  | _ :: _, [], _ => by simp [compareM]
  | _ :: _, _ :: _, [] => by intro _ h; simp [compareM] at h
  | x :: a, y :: b, z :: c => by
    intro h1 h2
    have c1 := cmpI_cases (smallU x).toNat (smallU y).toNat
    have c2 := cmpI_cases (smallU y).toNat (smallU z).toNat
    have c3 := cmpI_cases (smallU x).toNat (smallU z).toNat
    simp only [compareM] at h1 h2 ⊢
    by_cases e1 : smallU x = smallU y
    · rw [if_pos e1] at h1
      by_cases e2 : smallU y = smallU z
      · rw [if_pos e2] at h2
        rw [if_pos (e1.trans e2)]
        exact compareM_trans a b c h1 h2
      · rw [if_neg e2] at h2
        rw [if_neg (by rw [e1]; exact e2), e1]; exact h2
    · rw [if_neg e1] at h1
      have n1 : (smallU x).toNat ≠ (smallU y).toNat := fun e => e1 (UInt8.toNat_inj.1 e)
      by_cases e2 : smallU y = smallU z
      · rw [if_neg (by rw [← e2]; exact e1), ← e2]; exact h1
      · rw [if_neg e2] at h2
        have n2 : (smallU y).toNat ≠ (smallU z).toNat := fun e => e2 (UInt8.toNat_inj.1 e)
        by_cases e3 : smallU x = smallU z
        · rw [e3] at n1 c1 h1; omega
        · rw [if_neg e3]; omega
theorem sameM_eq (a b : List UInt8) : sameM a b = decide (compareM a b = 0) := by
  unfold sameM; congr 1; apply propext
  constructor
  · exact fun h => h.2
  · intro h
    have := congrArg List.length ((compareM_zero a b).1 h)
    simp only [foldL, List.length_map] at this
    exact ⟨this, h⟩
theorem sameM_fold (a : List UInt8) : sameM a (foldL a) = true := by
  rw [sameM_eq]; apply decide_eq_true
  rw [compareM_zero]; unfold foldL; simp [smallU_idem]

theorem textL_append (a b : List UInt8) : textL (a ++ b) = textL a ++ textL b := by simp [textL]
theorem textL_cons (c : UInt8) (b : List UInt8) : textL (c :: b) = octetW c ++ textL b := by simp [textL]
theorem octetW_ne (c : UInt8) : octetW c ≠ [] := by
  unfold octetW; split
  · simp
  · split <;> simp
theorem textL_nil_iff {l : List UInt8} (h : textL l = []) : l = [] := by
  cases l with
  | nil => rfl
  | cons c l => rw [textL_cons] at h; exact absurd (List.append_eq_nil_iff.1 h).1 (octetW_ne c)

/-- A byte of a text that is known as a list. -/
theorem byte_at (t : ByteArray) (l : List UInt8) (ht : t.data.toList = l) (k : Nat) (hk : k < t.size) (x : UInt8) (h : l[k]? = some x) : t[k] = x := by
  subst ht
  have := Lib.data_getElem? t k hk
  rw [h] at this; exact (Option.some.inj this).symm

/-- What the round at k finds: the head octet's words. -/
theorem safe_split (t : ByteArray) (l pre rest : List UInt8) (ht : t.data.toList = textL l) (hl : l = pre ++ rest) (hk : (textL pre).length < t.size) :
    ∃ c r, rest = c :: r ∧ l = (pre ++ [c]) ++ r ∧ (textL (pre ++ [c])).length = (textL pre).length + (octetW c).length ∧ (textL pre).length + (octetW c).length ≤ t.size ∧
      ∀ j x, (octetW c)[j]? = some x → ∀ h : (textL pre).length + j < t.size, t[(textL pre).length + j] = x := by
  have hsz : t.size = (textL l).length := by rw [← size_data, ht]
  cases rest with
  | nil => simp at hl; subst hl; omega
  | cons c r =>
    have e : textL l = textL pre ++ (octetW c ++ textL r) := by rw [hl, textL_append, textL_cons]
    refine ⟨c, r, rfl, by simp [hl], by rw [textL_snoc]; simp, ?_, ?_⟩
    · rw [hsz, e]; simp
    · intro j x hj h
      refine byte_at t _ ht _ h x ?_
      rw [e, List.getElem?_append_right (by omega), Nat.add_sub_cancel_left]
      have hlt : j < (octetW c).length := (List.getElem?_eq_some_iff.1 hj).1
      rw [List.getElem?_append_left hlt, hj]

theorem esc_first (c : UInt8) : (((48 + c / 100 : UInt8)).toNat : Int) = 48 + (c.toNat : Int) / 100 := by
  have := c.toNat_lt
  rw [UInt8.toNat_add, UInt8.toNat_div]
  simp only [UInt8.reduceToNat]
  omega
theorem u8_eqT {x : UInt8} {n : Nat} (h : x.toNat = n) : ((x.toNat : Int) == (n : Int)) = true := by rw [h]; simp
theorem u8_eqF {x : UInt8} {n : Nat} (h : x.toNat ≠ n) : ((x.toNat : Int) == (n : Int)) = false := by
  simp; omega

theorem readM_octetW (c : UInt8) (r : List UInt8) : readM (octetW c ++ r) = (c, (octetW c).length, 0) := by
  have hc := c.toNat_lt
  by_cases hsp : specialU c = true
  · have s1 : c.toNat = 46 ∨ c.toNat = 92 ∨ c.toNat = 34 ∨ c.toNat = 40 ∨ c.toNat = 41 ∨ c.toNat = 59 ∨ c.toNat = 64 ∨ c.toNat = 36 := of_decide_eq_true hsp
    have hd : digitU c = false := decide_eq_false (by omega)
    rw [octetW_special hsp]
    simp [readM, hd]
  · have hsp0 : specialU c = false := by simpa using hsp
    have s1 : ¬ (c.toNat = 46 ∨ c.toNat = 92 ∨ c.toNat = 34 ∨ c.toNat = 40 ∨ c.toNat = 41 ∨ c.toNat = 59 ∨ c.toNat = 64 ∨ c.toNat = 36) := of_decide_eq_false hsp0
    by_cases hpl : 33 ≤ (c.toNat : Int) ∧ (c.toNat : Int) ≤ 126
    · rw [octetW_plain hsp0 hpl.1 hpl.2]
      have e1 : c ≠ 46 := by intro e; subst e; simp at s1
      have e2 : c ≠ 92 := by intro e; subst e; simp at s1
      simp [readM, e1, e2]
    · rw [octetW_esc hsp0 (by omega)]
      have e1 : (48 + c / 100 : UInt8).toNat = 48 + c.toNat / 100 := by rw [UInt8.toNat_add, UInt8.toNat_div]; simp only [UInt8.reduceToNat]; omega
      have e2 : (48 + c / 10 % 10 : UInt8).toNat = 48 + c.toNat / 10 % 10 := by rw [UInt8.toNat_add, UInt8.toNat_mod, UInt8.toNat_div]; simp only [UInt8.reduceToNat]; omega
      have e3 : (48 + c % 10 : UInt8).toNat = 48 + c.toNat % 10 := by rw [UInt8.toNat_add, UInt8.toNat_mod]; simp only [UInt8.reduceToNat]; omega
      have d1 : digitU (48 + c / 100) = true := decide_eq_true (by omega)
      have d2 : digitU (48 + c / 10 % 10) = true := decide_eq_true (by omega)
      have d3 : digitU (48 + c % 10) = true := decide_eq_true (by omega)
      have hn : (48 + c.toNat / 100 - 48) * 100 + (48 + c.toNat / 10 % 10 - 48) * 10 + (48 + c.toNat % 10 - 48) = c.toNat := by omega
      simp only [octetEsc, List.cons_append, List.nil_append, readM, d1, d2, d3, e1, e2, e3, hn]
      rw [if_neg (by decide), if_neg (by decide), if_neg (by decide), if_pos ⟨trivial, trivial⟩, if_neg (by omega)]
      simp

theorem scan_text : ∀ l : List UInt8, scan (textL l) = (l, 0)
  | [] => rfl
  | c :: l => by
    have ih := scan_text l
    have hr := readM_octetW c (textL l)
    rw [textL_cons, scan_ok (by simp [octetW_ne]) (by rw [hr]), hr]
    simp only [List.drop_left', ih, join, if_true]
    rfl
theorem parse_text (l : List UInt8) : parseM (textL l) = (if checkLabelM l = 0 then (l, 0) else ([], checkLabelM l)) := by
  unfold parseM; rw [scan_text]; simp

theorem str_of (l : List UInt8) : ∃ s : ByteArray, s.data.toList = l ∧ s.size = l.length ∧ strV l = .string s := ⟨⟨l.toArray⟩, by simp, by show l.toArray.size = _; simp, rfl⟩
theorem mk_size (l : List UInt8) : (⟨l.toArray⟩ : ByteArray).size = l.length := by show l.toArray.size = _; simp
theorem check_ok {l : List UInt8} (h1 : l.length ≠ 0) (h2 : l.length ≤ 63) : checkLabelM l = 0 := by
  unfold checkLabelM; rw [if_neg (by intro e; simp [e] at h1), if_neg (by omega)]

end Go.Proofs.Ytckammgnmgkieaa

/-
  Names as lists of labels: what the functions of package name answer, as plain functions on lists; facts on them.
-/
namespace Go.Proofs.Ytckammgnmgkieaa
set_option maxRecDepth 20000
open Go.RowKit Go.Shelf

abbrev Nm := List (List UInt8)
def lenN (n : Nm) : Nat := 1 + (n.map fun x => 1 + x.length).sum
def checkL : Nm → Int
  | [] => 0
  | x :: r => if checkLabelM x = 0 then checkL r else checkLabelM x
def checkN (n : Nm) : Int := if checkL n = 0 then (if 255 < lenN n then 3 else 0) else checkL n
def textN (n : Nm) : List UInt8 := if n = [] then [46] else n.flatMap fun x => textL x ++ [46]
def foldN (n : Nm) : Nm := n.map foldL
def sameN (a b : Nm) : Bool := decide (foldN a = foldN b)
def underN (n z : Nm) : Bool := decide (z.length ≤ n.length) && sameN (n.drop (n.length - z.length)) z
def cmpR : Nm → Nm → Int
  | [], [] => 0
  | [], _ :: _ => -1
  | _ :: _, [] => 1
  | x :: r, y :: t => if compareM x y = 0 then cmpR r t else compareM x y
def compareN (a b : Nm) : Int := cmpR a.reverse b.reverse
def sharedR : Nm → Nm → Nat
  | x :: r, y :: t => if compareM x y = 0 then sharedR r t + 1 else 0
  | _, _ => 0
def commonN (a b : Nm) : Nm := a.drop (a.length - sharedR a.reverse b.reverse)
def parentN (n : Nm) : Nm := n.drop 1
def swapN (n f t : Nm) : Nm × Int :=
  if underN n f then (if checkN (n.take (n.length - f.length) ++ t) = 0 then (n.take (n.length - f.length) ++ t, 0) else ([], 7)) else ([], 12)
def wildN (n : Nm) : Bool := decide (n.head? = some [42])

theorem checkLabelM_cases (l : List UInt8) : checkLabelM l = 0 ∨ checkLabelM l = 8 ∨ checkLabelM l = 3 := by
  unfold checkLabelM; split
  · exact .inr (.inl rfl)
  · split
    · exact .inr (.inr rfl)
    · exact .inl rfl
theorem lenN_cons (x : List UInt8) (n : Nm) : lenN (x :: n) = lenN n + 1 + x.length := by simp [lenN]; omega
theorem lenN_snoc (n : Nm) (x : List UInt8) : lenN (n ++ [x]) = lenN n + 1 + x.length := by simp [lenN]; omega
theorem lenN_append (a b : Nm) : lenN (a ++ b) + 1 = lenN a + lenN b := by simp [lenN]; omega
theorem checkL_append (a b : Nm) : checkL (a ++ b) = if checkL a = 0 then checkL b else checkL a := by
  induction a with
  | nil => simp [checkL]
  | cons x a ih =>
    simp only [List.cons_append, checkL]
    split
    · exact ih
    · rfl
theorem checkL_snoc (a : Nm) (x : List UInt8) : checkL (a ++ [x]) = if checkL a = 0 then checkLabelM x else checkL a := by
  rw [checkL_append]; simp only [checkL]
  split
  · split
    · rename_i h; exact h.symm
    · rfl
  · rfl
/-- The first label that may not be tells. -/
theorem checkL_stop {a p : Nm} (h : p <+: a) (hp : checkL p ≠ 0) : checkL a = checkL p := by
  obtain ⟨t, rfl⟩ := h; rw [checkL_append, if_neg hp]
theorem checkN_of_stop {a p : Nm} (h : p <+: a) (hp : checkL p ≠ 0) : checkN a = checkL p := by
  unfold checkN; rw [checkL_stop h hp, if_neg hp]

theorem foldN_len (n : Nm) : (foldN n).length = n.length := by simp [foldN]
theorem sameN_iff (a b : Nm) : sameN a b = true ↔ foldN a = foldN b := by simp [sameN]
theorem sameM_iff (a b : List UInt8) : sameM a b = true ↔ foldL a = foldL b := by
  rw [sameM_eq, decide_eq_true_iff]; exact compareM_zero a b
theorem sameN_len {a b : Nm} (h : a.length ≠ b.length) : sameN a b = false := by
  unfold sameN; apply decide_eq_false; intro e; have := congrArg List.length e; simp [foldN] at this; exact h this
theorem sameN_of_get {a b : Nm} (h : a.length = b.length) (hs : ∀ j (h1 : j < a.length) (h2 : j < b.length), sameM a[j] b[j] = true) : sameN a b = true := by
  rw [sameN_iff]
  apply List.ext_getElem (by simp [foldN, h])
  intro j h1 h2
  simp only [foldN, List.getElem_map]
  exact (sameM_iff _ _).1 (hs j (by simpa [foldN] using h1) (by simpa [foldN] using h2))
theorem sameN_not_get {a b : Nm} (j : Nat) (h1 : j < a.length) (h2 : j < b.length) (hs : sameM a[j] b[j] = false) : sameN a b = false := by
  cases h : sameN a b with
  | false => rfl
  | true =>
    rw [sameN_iff] at h
    have : foldL a[j] = foldL b[j] := by
      have h3 : (foldN a)[j]'(by simp [foldN, h1]) = (foldN b)[j]'(by simp [foldN, h2]) := by simp only [h]
      simpa [foldN] using h3
    rw [(sameM_iff _ _).2 this] at hs; cases hs
theorem sameN_refl (a : Nm) : sameN a a = true := (sameN_iff _ _).2 rfl
theorem sameN_symm (a b : Nm) : sameN a b = sameN b a := by unfold sameN; exact decide_eq_decide.2 ⟨Eq.symm, Eq.symm⟩
theorem sameN_trans {a b c : Nm} (h1 : sameN a b = true) (h2 : sameN b c = true) : sameN a c = true := (sameN_iff _ _).2 (((sameN_iff _ _).1 h1).trans ((sameN_iff _ _).1 h2))
theorem foldL_idem (l : List UInt8) : foldL (foldL l) = foldL l := by
  unfold foldL; rw [List.map_map]; apply List.map_congr_left; intro c _; exact smallU_idem c
theorem sameN_fold (a : Nm) : sameN a (foldN a) = true := by
  rw [sameN_iff]; unfold foldN; rw [List.map_map]; apply List.map_congr_left; intro l _; exact (foldL_idem l).symm

/-! ### the order -/
theorem cmpR_range : ∀ a b : Nm, cmpR a b = -1 ∨ cmpR a b = 0 ∨ cmpR a b = 1
  | [], [] => .inr (.inl rfl)
  | [], _ :: _ => .inl rfl
  | _ :: _, [] => .inr (.inr rfl)
  | x :: r, y :: t => by
    simp only [cmpR]; split
    · exact cmpR_range r t
    · exact compareM_range x y
theorem cmpR_swap : ∀ a b : Nm, cmpR b a = - cmpR a b
  | [], [] => rfl
  | [], _ :: _ => rfl
  | _ :: _, [] => rfl
  | x :: r, y :: t => by
    simp only [cmpR]
    have h := compareM_swap x y
    by_cases e : compareM x y = 0
    · rw [if_pos e, if_pos (by omega)]; exact cmpR_swap r t
    · rw [if_neg e, if_neg (by omega)]; exact h
theorem cmpR_zero : ∀ a b : Nm, cmpR a b = 0 ↔ foldN a = foldN b
  | [], [] => by simp [cmpR, foldN]
  | [], _ :: _ => by simp [cmpR, foldN]
  | _ :: _, [] => by simp [cmpR, foldN]
  | x :: r, y :: t => by
    have ih := cmpR_zero r t
    have h := compareM_zero x y
    simp only [cmpR, foldN, List.map_cons, List.cons.injEq] at ih ⊢
    by_cases e : compareM x y = 0
    · rw [if_pos e, ih]; exact ⟨fun q => ⟨h.1 e, q⟩, fun q => q.2⟩
    · rw [if_neg e]; exact ⟨fun q => absurd q e, fun q => absurd (h.2 q.1) e⟩
theorem compareM_zero_left {x y z : List UInt8} (h : compareM x y = 0) : compareM y z = compareM x z := by
  have e := (compareM_zero x y).1 h
  rw [← compareM_foldl x z, ← compareM_foldl y z, e]
theorem cmpR_trans : ∀ a b c : Nm, cmpR a b ≤ 0 → cmpR b c ≤ 0 → cmpR a c ≤ 0
  | [], _, [] => by intro _ _; simp [cmpR]
  | [], _, _ :: _ => by intro _ _; simp [cmpR]
  | _ :: _, [], _ => by intro h _; simp [cmpR] at h
  | _ :: _, _ :: _, [] => by intro _ h; simp [cmpR] at h
  | x :: r, y :: t, z :: u => by
    have ih := cmpR_trans r t u
    simp only [cmpR]
    intro h1 h2
    by_cases e1 : compareM x y = 0
    · rw [if_pos e1] at h1
      rw [← compareM_zero_left (z := z) e1]
      by_cases e2 : compareM y z = 0
      · rw [if_pos e2] at h2 ⊢; exact ih h1 h2
      · rw [if_neg e2] at h2 ⊢; exact h2
    · rw [if_neg e1] at h1
      by_cases e2 : compareM y z = 0
      · have e3 : compareM x z = compareM x y := by
          have s1 := compareM_swap x z; have s2 := compareM_swap x y
          have := compareM_zero_left (x := y) (y := z) (z := x) e2
          omega
        rw [e3, if_neg e1]; exact h1
      · rw [if_neg e2] at h2
        have h3 := compareM_trans x y z h1 h2
        by_cases e3 : compareM x z = 0
        · exfalso
          have s1 := compareM_swap x y
          have := compareM_zero_left (x := x) (y := z) (z := y) e3
          have s2 := compareM_swap y z
          have r1 := compareM_range x y; have r2 := compareM_range y z
          omega
        · rw [if_neg e3]; exact h3
theorem foldN_reverse (a : Nm) : foldN a.reverse = (foldN a).reverse := by simp [foldN]
theorem compareN_zero (a b : Nm) : compareN a b = 0 ↔ sameN a b = true := by
  unfold compareN; rw [cmpR_zero, foldN_reverse, foldN_reverse, sameN_iff]
  exact ⟨fun h => List.reverse_inj.1 h, fun h => by rw [h]⟩
theorem compareN_swap (a b : Nm) : compareN b a = - compareN a b := cmpR_swap _ _
theorem compareN_range (a b : Nm) : compareN a b = -1 ∨ compareN a b = 0 ∨ compareN a b = 1 := cmpR_range _ _
theorem compareN_trans (a b c : Nm) (h1 : compareN a b ≤ 0) (h2 : compareN b c ≤ 0) : compareN a c ≤ 0 := cmpR_trans _ _ _ h1 h2

/-! ### below -/
theorem underN_iff (n z : Nm) : underN n z = true ↔ ∃ p, foldN n = p ++ foldN z := by
  unfold underN
  simp only [Bool.and_eq_true, decide_eq_true_eq, sameN_iff]
  constructor
  · rintro ⟨h, e⟩
    refine ⟨(foldN n).take (n.length - z.length), ?_⟩
    rw [← e]; simp [foldN, List.map_drop]
  · rintro ⟨p, e⟩
    have hl : n.length = p.length + z.length := by have := congrArg List.length e; simpa [foldN] using this
    refine ⟨by omega, ?_⟩
    have : foldN (n.drop (n.length - z.length)) = (foldN n).drop (n.length - z.length) := by simp [foldN, List.map_drop]
    rw [this, e, show n.length - z.length = p.length by omega, List.drop_left]
theorem underN_trans {a b c : Nm} (h1 : underN a b = true) (h2 : underN b c = true) : underN a c = true := by
  rw [underN_iff] at *
  obtain ⟨p, e1⟩ := h1; obtain ⟨q, e2⟩ := h2
  exact ⟨p ++ q, by rw [e1, e2, List.append_assoc]⟩
theorem underN_nil (a : Nm) : underN a [] = true := (underN_iff _ _).2 ⟨foldN a, by simp [foldN]⟩
theorem cmpR_ahead : ∀ (a b p : Nm), foldN a = foldN b ++ p → 0 ≤ cmpR a b
  | [], [], _ => by intro _; simp [cmpR]
  | [], _ :: _, _ => by intro h; simp [foldN] at h
  | _ :: _, [], _ => by intro _; simp [cmpR]
  | x :: r, y :: t, p => by
    intro h
    simp only [foldN, List.map_cons, List.cons_append, List.cons.injEq] at h
    simp only [cmpR]
    rw [if_pos ((compareM_zero x y).2 h.1)]
    exact cmpR_ahead r t p h.2
theorem compareN_under {a b : Nm} (h : underN a b = true) : 0 ≤ compareN a b := by
  obtain ⟨p, e⟩ := (underN_iff _ _).1 h
  unfold compareN
  refine cmpR_ahead _ _ p.reverse ?_
  rw [foldN_reverse, e, foldN_reverse, List.reverse_append]
theorem underN_len {a b : Nm} (h : underN a b = true) : b.length ≤ a.length := by
  obtain ⟨p, e⟩ := (underN_iff _ _).1 h
  have := congrArg List.length e; simp [foldN] at this; omega

end Go.Proofs.Ytckammgnmgkieaa

/-
  The document's reading of escapes (package toponymref6): Octets, ParseLabel: what label.Parse reads.
-/
namespace Go.Proofs.Ytckammgnmgkieaa
set_option maxRecDepth 20000
open Go.RowKit Go.Shelf

section
variable (s : ByteArray) (k : Nat)
theorem rd_dot (h : k < s.size) (h1 : ((s[k].toNat : Int) == 46) = true) : readM (s.data.toList.drop k) = (0, 0, 2) := by
  rw [drop_cons_get s k h]; have : s[k] = 46 := u8_is (n := 46) (by omega) h1
  simp [readM, this]
theorem rd_plain (h : k < s.size) (h1 : ((s[k].toNat : Int) == 46) = false) (h2 : ((s[k].toNat : Int) != 92) = true) : readM (s.data.toList.drop k) = (s[k], 1, 0) := by
  rw [drop_cons_get s k h]; have e1 : s[k] ≠ 46 := u8_isnt (n := 46) (by omega) h1
  have e2 : s[k] ≠ 92 := u8_isnt (n := 92) (by omega) (by simpa using h2)
  simp [readM, e1, e2]
theorem rd_one (h : k < s.size) (h2 : ((s[k].toNat : Int) != 92) = false) (h3 : s.size ≤ k + 1) : readM (s.data.toList.drop k) = (0, 0, 2) := by
  rw [drop_cons_get s k h, u8_92 h2, List.drop_eq_nil_of_le (by rw [size_data]; omega)]; simp [readM]
theorem rd_sign (h : k + 1 < s.size) (h2 : ((s[k].toNat : Int) != 92) = false) (h3 : digitU s[k + 1] = false) : readM (s.data.toList.drop k) = (s[k + 1], 2, 0) := by
  rw [drop_cons_get s k (by omega), drop_cons_get s (k + 1) h, u8_92 h2]; simp [readM, h3]
theorem rd_short (h : k + 1 < s.size) (h2 : ((s[k].toNat : Int) != 92) = false) (h3 : digitU s[k + 1] = true) (h4 : s.size ≤ k + 3) : readM (s.data.toList.drop k) = (0, 0, 2) := by
  rw [drop_cons_get s k (by omega), drop_cons_get s (k + 1) h, u8_92 h2]
  have hl : (s.data.toList.drop (k + 1 + 1)).length < 2 := by rw [List.length_drop, size_data]; omega
  match hd : s.data.toList.drop (k + 1 + 1), hl with
  | [], _ => simp [readM, h3]
  | [_], _ => simp [readM, h3]
theorem drop4 (h : k + 3 < s.size) : s.data.toList.drop k = s[k] :: s[k + 1] :: s[k + 2] :: s[k + 3] :: s.data.toList.drop (k + 4) := by
  rw [drop_cons_get s k (by omega), drop_cons_get s (k + 1) (by omega), drop_cons_get s (k + 2) (by omega), drop_cons_get s (k + 3) (by omega)]
theorem rd_bad (h : k + 3 < s.size) (h2 : ((s[k].toNat : Int) != 92) = false) (h3 : digitU s[k + 1] = true) (h4 : ¬ (digitU s[k + 2] = true ∧ digitU s[k + 3] = true)) : readM (s.data.toList.drop k) = (0, 0, 2) := by
  rw [drop4 s k h, u8_92 h2]; simp only [readM, h3]; simp [h4]
theorem rd_over (h : k + 3 < s.size) (h2 : ((s[k].toNat : Int) != 92) = false) (h3 : digitU s[k + 1] = true) (h4 : digitU s[k + 2] = true) (h5 : digitU s[k + 3] = true)
    (h6 : 255 < ((s[k + 1].toNat : Int) - 48) * 100 + ((s[k + 2].toNat : Int) - 48) * 10 + ((s[k + 3].toNat : Int) - 48)) : readM (s.data.toList.drop k) = (0, 0, 7) := by
  have b1 := digit_bounds h3; have b2 := digit_bounds h4; have b3 := digit_bounds h5
  rw [drop4 s k h, u8_92 h2]; simp only [readM, h3, h4, h5]
  rw [if_pos (by omega : 255 < (s[k + 1].toNat - 48) * 100 + (s[k + 2].toNat - 48) * 10 + (s[k + 3].toNat - 48))]; simp
theorem rd_ok (h : k + 3 < s.size) (h2 : ((s[k].toNat : Int) != 92) = false) (h3 : digitU s[k + 1] = true) (h4 : digitU s[k + 2] = true) (h5 : digitU s[k + 3] = true)
    (h6 : ((s[k + 1].toNat : Int) - 48) * 100 + ((s[k + 2].toNat : Int) - 48) * 10 + ((s[k + 3].toNat : Int) - 48) ≤ 255) :
    ∃ c : UInt8, readM (s.data.toList.drop k) = (c, 4, 0) ∧ (c.toNat : Int) = ((s[k + 1].toNat : Int) - 48) * 100 + ((s[k + 2].toNat : Int) - 48) * 10 + ((s[k + 3].toNat : Int) - 48) := by
  have b1 := digit_bounds h3; have b2 := digit_bounds h4; have b3 := digit_bounds h5
  refine ⟨UInt8.ofNat ((s[k + 1].toNat - 48) * 100 + (s[k + 2].toNat - 48) * 10 + (s[k + 3].toNat - 48)), ?_, ?_⟩
  · rw [drop4 s k h, u8_92 h2]; simp only [readM, h3, h4, h5]
    rw [if_neg (by omega : ¬ 255 < (s[k + 1].toNat - 48) * 100 + (s[k + 2].toNat - 48) * 10 + (s[k + 3].toNat - 48))]; simp
  · rw [UInt8.toNat_ofNat']; omega
end

def OctPost (s : ByteArray) (w : World) (e : Ending) (w' : World) : Prop :=
  e = .returned (.tuple #[.string ⟨(scan s.data.toList).1.toArray⟩, .int .i64 (scan s.data.toList).2]) ∧ Below w.heap.size w w'
theorem oct_fin {s : ByteArray} {w w' : World} {e : Ending} (l : List UInt8) (er : Int) (h : scan s.data.toList = (l, er)) (he : e = .returned (.tuple #[.string ⟨l.toArray⟩, .int .i64 er])) (hw : Below w.heap.size w w') : OctPost s w e w' := by
  unfold OctPost; rw [h]; exact ⟨he, hw⟩
theorem drop_ne (s : ByteArray) (k : Nat) (h : k < s.size) : s.data.toList.drop k ≠ [] := by
  intro e; have := congrArg List.length e; rw [List.length_drop, size_data] at this; simp at this; omega
theorem oct_err {s : ByteArray} {k : Nat} {xs : List UInt8} {er : Int} {c : UInt8} {z : Nat} (hJ : scan s.data.toList = join xs (scan (s.data.toList.drop k))) (hk : k < s.size) (hr : readM (s.data.toList.drop k) = (c, z, er)) (he : er ≠ 0) :
    scan s.data.toList = ([], er) := by
  rw [hJ, scan_err (drop_ne s k hk) (by rw [hr]; exact he), hr]; unfold join; rw [if_neg he]
theorem oct_next {s : ByteArray} {k : Nat} {xs : List UInt8} {c : UInt8} {z : Nat} (hJ : scan s.data.toList = join xs (scan (s.data.toList.drop k))) (hk : k < s.size) (hr : readM (s.data.toList.drop k) = (c, z, 0)) :
    scan s.data.toList = join (xs ++ [c]) (scan (s.data.toList.drop (k + z))) := by
  rw [hJ, scan_ok (drop_ne s k hk) (by rw [hr]), hr, join_join, List.drop_drop]

theorem scanM_len : ∀ (n : Nat) (l : List UInt8), l.length ≤ n → (scan l).1.length ≤ l.length := by
  intro n
  induction n with
  | zero => intro l h; obtain rfl : l = [] := List.eq_nil_of_length_eq_zero (by omega); simp [scan_nil]
  | succ n ih =>
    intro l h
    by_cases h0 : l = []
    · subst h0; simp [scan_nil]
    by_cases h1 : (readM l).2.2 = 0
    · have hs := readM_size h0 h1
      rw [scan_ok h0 h1]
      unfold join
      have h2 := ih (l.drop (readM l).2.1) (by rw [List.length_drop]; omega)
      rw [List.length_drop] at h2
      split
      · simp; omega
      · simp
    · rw [scan_err h0 h1]; simp

end Go.Proofs.Ytckammgnmgkieaa

/-
  Plain facts for types and numbers: digits, decimals read and written, letters great and small, the names of types.
-/
namespace Go.Proofs.Ytckammgnmgkieaa
set_option maxRecDepth 20000
open Go.RowKit Go.Shelf


/-! ### decimals -/
def valL (l : List UInt8) : Nat := l.foldl (fun n c => 10 * n + (c.toNat - 48)) 0
theorem valL_snoc (l : List UInt8) (c : UInt8) : valL (l ++ [c]) = 10 * valL l + (c.toNat - 48) := by simp [valL]
theorem foldl_ge (l : List UInt8) : ∀ n, n ≤ l.foldl (fun n c => 10 * n + (c.toNat - 48)) n := by
  induction l with
  | nil => intro n; simp
  | cons c l ih => intro n; simp only [List.foldl_cons]; exact Nat.le_trans (by omega) (ih _)
theorem valL_prefix {p l : List UInt8} (h : p <+: l) : valL p ≤ valL l := by
  obtain ⟨r, rfl⟩ := h; unfold valL; rw [List.foldl_append]; exact foldl_ge _ _
def allDigits (l : List UInt8) : Bool := l.all digitU
def formN (l : List UInt8) : Bool := (!l.isEmpty && allDigits l) && !(decide (1 < l.length) && decide (l.head? = some 48))
/-- A decimal without leading noughts, at most so much. -/
def numM (l : List UInt8) (most : Nat) : Nat × Int := if formN l then (if valL l ≤ most then (valL l, 0) else (0, 7)) else (0, 2)

theorem digitU_iff (c : UInt8) : digitU c = true ↔ 48 ≤ c.toNat ∧ c.toNat ≤ 57 := by unfold digitU; simp
theorem digitU_of (d : Nat) (h : d < 10) : digitU (UInt8.ofNat (48 + d)) = true := by
  rw [digitU_iff]; have : (UInt8.ofNat (48 + d)).toNat = 48 + d := by simp; omega
  omega
theorem ofNat_val (d : Nat) (h : d < 10) : (UInt8.ofNat (48 + d)).toNat - 48 = d := by
  have : (UInt8.ofNat (48 + d)).toNat = 48 + d := by simp; omega
  omega
theorem dec_facts : ∀ (u : Nat), allDigits (Lib.decDigits u) = true ∧ valL (Lib.decDigits u) = u ∧ Lib.decDigits u ≠ [] ∧ (1 < (Lib.decDigits u).length → (Lib.decDigits u).head? ≠ some 48) ∧ (0 < u → (Lib.decDigits u).head? ≠ some 48) := by
  intro u
  induction u using Nat.strongRecOn with
  | ind u ih =>
    rw [Lib.decDigits]
    by_cases h : u < 10
    · rw [dif_pos h]
      refine ⟨by simp only [allDigits, List.all_cons, List.all_nil, Bool.and_true]; exact digitU_of u h, by simp only [valL, List.foldl_cons, List.foldl_nil]; rw [ofNat_val u h]; omega, by simp, by simp, ?_⟩
      intro h0 e
      simp only [List.head?_cons, Option.some.injEq] at e
      have := congrArg UInt8.toNat e
      simp at this; omega
    · rw [dif_neg h]
      obtain ⟨h1, h2, h3, h4, h5⟩ := ih (u / 10) (by omega)
      have hm : u % 10 < 10 := Nat.mod_lt _ (by omega)
      have hh : (Lib.decDigits (u / 10) ++ [UInt8.ofNat (48 + u % 10)]).head? = (Lib.decDigits (u / 10)).head? := by
        cases hd : Lib.decDigits (u / 10) with
        | nil => exact absurd hd h3
        | cons a b => rfl
      refine ⟨?_, ?_, by simp, fun _ => by rw [hh]; exact h5 (by omega), fun _ => by rw [hh]; exact h5 (by omega)⟩
      · unfold allDigits at *; rw [List.all_append, h1]; simp only [List.all_cons, List.all_nil, Bool.and_true, Bool.true_and]; exact digitU_of _ hm
      · rw [valL_snoc, h2, ofNat_val _ hm]; omega
theorem numM_dec (u most : Nat) (h : u ≤ most) : numM (Lib.decDigits u) most = (u, 0) := by
  obtain ⟨h1, h2, h3, h4, _⟩ := dec_facts u
  have hf : formN (Lib.decDigits u) = true := by
    unfold formN
    rw [h1]
    have : (Lib.decDigits u).isEmpty = false := by cases hd : Lib.decDigits u with
      | nil => exact absurd hd h3
      | cons a b => rfl
    rw [this]
    by_cases hl : 1 < (Lib.decDigits u).length
    · have := h4 hl; simp [this]
    · simp [hl]
  unfold numM; rw [hf, if_pos rfl, h2, if_pos h]

/-! ### letters -/
def greatU (c : UInt8) : UInt8 := if 97 ≤ c.toNat ∧ c.toNat ≤ 122 then c - 32 else c
def greatL (l : List UInt8) : List UInt8 := l.map greatU
theorem greatU_hi (c : UInt8) (h1 : 97 ≤ (c.toNat : Int)) (h2 : (c.toNat : Int) ≤ 122) : (c.toNat : Int) - 97 + 65 = ((greatU c).toNat : Int) := by
  unfold greatU; rw [if_pos ⟨by omega, by omega⟩, UInt8.toNat_sub]; simp; omega
theorem greatU_nat (c : UInt8) : (greatU c).toNat = if 97 ≤ c.toNat ∧ c.toNat ≤ 122 then c.toNat - 32 else c.toNat := by
  unfold greatU
  by_cases h : 97 ≤ c.toNat ∧ c.toNat ≤ 122
  · rw [if_pos h, if_pos h, UInt8.toNat_sub]; simp; omega
  · rw [if_neg h, if_neg h]
theorem smallU_nat (c : UInt8) : (smallU c).toNat = if 65 ≤ c.toNat ∧ c.toNat ≤ 90 then c.toNat + 32 else c.toNat := by
  unfold smallU
  by_cases h : 65 ≤ c.toNat ∧ c.toNat ≤ 90
  · rw [if_pos h, if_pos h, UInt8.toNat_add]; simp; omega
  · rw [if_neg h, if_neg h]
theorem great_small (c : UInt8) : greatU (smallU c) = greatU c := by
  apply UInt8.toNat.inj; rw [greatU_nat, greatU_nat, smallU_nat]; repeat' split
  all_goals omega
theorem small_great (c : UInt8) : smallU (greatU c) = smallU c := by
  apply UInt8.toNat.inj; rw [smallU_nat, smallU_nat, greatU_nat]; repeat' split
  all_goals omega
theorem greatL_fold (l : List UInt8) : greatL (foldL l) = greatL l := by unfold greatL foldL; rw [List.map_map]; exact List.map_congr_left fun c _ => great_small c
theorem foldL_great (l : List UInt8) : foldL (greatL l) = foldL l := by unfold greatL foldL; rw [List.map_map]; exact List.map_congr_left fun c _ => small_great c
theorem digit_great (c : UInt8) : digitU (greatU c) = digitU c ∧ (digitU c = true → greatU c = c) := by
  refine ⟨?_, ?_⟩
  · rw [Bool.eq_iff_iff, digitU_iff, digitU_iff, greatU_nat]; split <;> omega
  · intro h; rw [digitU_iff] at h; unfold greatU; rw [if_neg (by omega)]
theorem digit_small (c : UInt8) : digitU (smallU c) = digitU c ∧ (digitU c = true → smallU c = c) := by
  refine ⟨?_, ?_⟩
  · rw [Bool.eq_iff_iff, digitU_iff, digitU_iff, smallU_nat]; split <;> omega
  · intro h; rw [digitU_iff] at h; unfold smallU; rw [if_neg (by omega)]
theorem numM_map (f : UInt8 → UInt8) (hf : ∀ c, digitU (f c) = digitU c ∧ (digitU c = true → f c = c)) (l : List UInt8) (most : Nat) : numM (l.map f) most = numM l most := by
  by_cases h : allDigits l = true
  · have : l.map f = l := by
      conv => rhs; rw [← List.map_id l]
      apply List.map_congr_left
      intro c hc; exact (hf c).2 (List.all_eq_true.1 h c hc)
    rw [this]
  · have h1 : formN l = false := by unfold formN; simp only [Bool.not_eq_true] at h; rw [h]; simp
    have h2 : allDigits (l.map f) = false := by
      simp only [Bool.not_eq_true] at h
      rw [← h]; unfold allDigits; rw [List.all_map]; congr 1; funext c; exact (hf c).1
    have h3 : formN (l.map f) = false := by unfold formN; rw [h2]; simp
    unfold numM; rw [h1, h3]; rfl

/-! ### the names of types -/
def typeT (j : Nat) : Int := [1, 2, 5, 6, 12, 15, 16, 28, 39].getD j 0
def typeS (j : Nat) : List UInt8 := ([[65], [78, 83], [67, 78, 65, 77, 69], [83, 79, 65], [80, 84, 82], [77, 88], [84, 88, 84], [65, 65, 65, 65], [68, 78, 65, 77, 69]] : List (List UInt8)).getD j []
/-- The first row with that number; with that name. -/
def rowOfT (t : Int) : Option Nat := (List.range 9).find? fun j => decide (typeT j = t)
def rowOfS (s : List UInt8) : Option Nat := (List.range 9).find? fun j => decide (typeS j = s)
def typeNameM (t : Int) : List UInt8 := match rowOfT t with | some j => typeS j | none => []
def knownM (t : Int) : Bool := (rowOfT t).isSome
def typeTextM (t : Int) : List UInt8 := match rowOfT t with | some j => typeS j | none => [84, 89, 80, 69] ++ Lib.itoa t
def parseTypeM (s : List UInt8) : Int × Int :=
  match rowOfS (greatL s) with
  | some j => (typeT j, 0)
  | none =>
    if (greatL s).take 4 = [84, 89, 80, 69] then
      (if (numM (s.drop 4) 65535).2 = 2 then (0, 6) else if (numM (s.drop 4) 65535).2 ≠ 0 ∨ (numM (s.drop 4) 65535).1 = 0 then (0, 7) else ((numM (s.drop 4) 65535).1, 0))
    else (0, 6)
theorem find_range {n : Nat} {p : Nat → Bool} {j : Nat} (h : (List.range n).find? p = some j) : j < n ∧ p j = true ∧ ∀ i, i < j → p i = false := by
  refine ⟨by have := List.mem_of_find?_eq_some h; simpa using this, List.find?_some h, ?_⟩
  intro i hi
  rw [List.find?_range_eq_some] at h
  simpa using h.2.2 i hi
theorem find_range_none {n : Nat} {p : Nat → Bool} (h : (List.range n).find? p = none) : ∀ i, i < n → p i = false := by
  intro i hi; rw [List.find?_eq_none] at h; simpa using h i (by simpa using hi)
theorem rowOfT_typeT : ∀ j, j < 9 → rowOfT (typeT j) = some j := by decide
theorem rowOfS_typeS : ∀ j, j < 9 → rowOfS (typeS j) = some j := by decide
theorem great_typeS : ∀ j, j < 9 → greatL (typeS j) = typeS j := by decide
theorem typeS_ne : ∀ j, j < 9 → typeS j ≠ [] ∧ (typeS j).take 4 ≠ [84, 89, 80, 69] ∧ (typeS j).length ≤ 5 := by decide
theorem typeT_pos : ∀ j, j < 9 → 0 < typeT j ∧ typeT j ≤ 65535 := by decide
theorem fold_typeS (j : Nat) (hj : j < 9) (s : List UInt8) : (foldL (typeS j) = foldL s) ↔ (typeS j = greatL s) := by
  constructor
  · intro h
    have := congrArg greatL h
    rwa [greatL_fold, greatL_fold, great_typeS j hj] at this
  · intro h
    have := congrArg foldL h
    rwa [foldL_great] at this
theorem great_dec (u : Nat) : greatL (Lib.decDigits u) = Lib.decDigits u := by
  have h := (dec_facts u).1
  unfold greatL
  conv => rhs; rw [← List.map_id (Lib.decDigits u)]
  apply List.map_congr_left
  intro c hc; exact (digit_great c).2 (List.all_eq_true.1 h c hc)
theorem great_text (t : Nat) : greatL (typeTextM t) = typeTextM t := by
  unfold typeTextM
  cases h : rowOfT t with
  | some j => exact great_typeS j (find_range h).1
  | none =>
    show greatL ([84, 89, 80, 69] ++ Lib.itoa t) = [84, 89, 80, 69] ++ Lib.itoa t
    rw [Lib.itoa_nonneg]
    have h1 : greatL ([84, 89, 80, 69] ++ Lib.decDigits t) = greatL [84, 89, 80, 69] ++ greatL (Lib.decDigits t) := by simp [greatL]
    rw [h1, great_dec]; rfl
/-- A text that is a type's words but for its letters is that type. -/
theorem parse_great (t : Nat) (h1 : 0 < t) (h2 : t ≤ 65535) (s : List UInt8) (hs : greatL s = typeTextM t) : parseTypeM s = ((t : Int), 0) := by
  unfold parseTypeM
  rw [hs]
  unfold typeTextM at hs ⊢
  cases h : rowOfT t with
  | some j =>
    obtain ⟨hj, hp, _⟩ := find_range h
    simp only
    rw [rowOfS_typeS j hj]
    simp only [Prod.mk.injEq, and_true]
    exact of_decide_eq_true hp
  | none =>
    rw [h] at hs
    simp only [Lib.itoa_nonneg] at hs ⊢
    have hn : rowOfS ([84, 89, 80, 69] ++ Lib.decDigits t) = none := by
      cases h' : rowOfS ([84, 89, 80, 69] ++ Lib.decDigits t) with
      | none => rfl
      | some j =>
        obtain ⟨hj, hp, _⟩ := find_range h'
        have e := of_decide_eq_true hp
        have := (typeS_ne j hj).2.1
        rw [e] at this
        exact absurd rfl this
    rw [hn]
    simp only
    have h4 : ([84, 89, 80, 69] ++ Lib.decDigits t).take 4 = [84, 89, 80, 69] := rfl
    rw [if_pos h4]
    have hd : greatL (s.drop 4) = Lib.decDigits t := by
      have := congrArg (List.drop 4) hs
      unfold greatL at this ⊢
      rw [← List.map_drop] at this
      exact this
    have hnum : numM (s.drop 4) 65535 = (t, 0) := by
      rw [← numM_map greatU digit_great (s.drop 4) 65535]
      show numM (greatL (s.drop 4)) 65535 = _
      rw [hd]; exact numM_dec t 65535 h2
    rw [hnum]
    simp; omega
theorem text_inj (a b : Nat) (h1 : 0 < a) (h2 : a ≤ 65535) (h3 : 0 < b) (h4 : b ≤ 65535) (h : typeTextM a = typeTextM b) : a = b := by
  have e1 := parse_great a h1 h2 _ (great_text a)
  have e2 := parse_great b h3 h4 _ (great_text b)
  rw [h, e2] at e1
  simp at e1; omega

/-! ### bytes turned one by one -/
def half (f : Nat → UInt8 → UInt8) (l : List UInt8) (k : Nat) : List UInt8 := (l.take k).mapIdx f ++ l.drop k
theorem half_zero (f : Nat → UInt8 → UInt8) (l : List UInt8) : half f l 0 = l := by simp [half]
theorem half_all (f : Nat → UInt8 → UInt8) (l : List UInt8) : half f l l.length = l.mapIdx f := by simp [half]
theorem half_len (f : Nat → UInt8 → UInt8) (l : List UInt8) (k : Nat) : (half f l k).length = l.length := by simp [half]; omega
theorem half_get (f : Nat → UInt8 → UInt8) (l : List UInt8) (k : Nat) (h : k < l.length) : (half f l k)[k]'(by rw [half_len]; exact h) = l[k] := by
  unfold half
  rw [List.getElem_append_right (by simp; omega)]
  simp; congr 1; omega
theorem half_succ (f : Nat → UInt8 → UInt8) (l : List UInt8) (k : Nat) (h : k < l.length) : (half f l k).set k (f k l[k]) = half f l (k + 1) := by
  unfold half
  rw [List.take_succ_eq_append_getElem h, List.mapIdx_append, List.drop_eq_getElem_cons h, List.set_append_right _ _ (by simp; omega)]
  have : k - ((l.take k).mapIdx f).length = 0 := by simp; omega
  rw [this]
  simp only [List.set_cons_zero, List.mapIdx_cons, List.mapIdx_nil, List.append_assoc, List.cons_append, List.nil_append]
  congr 2
  simp; congr 1; omega

end Go.Proofs.Ytckammgnmgkieaa

/-
  Strings turned into bytes of the call's own, turned one by one, and back: rtype.great, ref.FoldLabel.
-/
namespace Go.Proofs.Ytckammgnmgkieaa
set_option maxRecDepth 20000
open Go.RowKit Go.Shelf

/-- A row of bytes of the call's own, from the head of block g. -/
def BRow (g : Nat) (l : List UInt8) (W : World) : Prop := ∀ j (hj : j < l.length), W.cell? ⟨g, j, none⟩ = some (bv l[j]) ∧ W.frozen? ⟨g, j, none⟩ = false
theorem BRow.set {g : Nat} {l : List UInt8} {W : World} (h : BRow g l W) (k : Nat) (hk : k < l.length) (c : UInt8) : BRow g (l.set k c) (W.setCell ⟨g, k, none⟩ (bv c)) := by
  intro j hj
  rw [List.length_set] at hj
  rw [World.frozen?_setCell]
  refine ⟨?_, (h j hj).2⟩
  by_cases e : j = k
  · subst e
    rw [World.cell?_setCell_same' _ _ _ (by rw [(h j hk).1]; rfl)]
    simp
  · have hne : (⟨g, k, none⟩ : Addr) ≠ ⟨g, j, none⟩ := by intro q; injection q with _ e2 _; omega
    rw [World.cell?_setCell_other (h := hne), (h j hj).1]
    congr 2; rw [List.getElem_set_ne (by omega)]
theorem BRow.below {g n : Nat} {l : List UInt8} {W W' : World} (h : BRow g l W) (hb : Below n W W') (hg : g < n) : BRow g l W' := fun j hj =>
  ⟨(hb.cell (p := ⟨g, j, none⟩) hg).trans (h j hj).1, (hb.frozen (p := ⟨g, j, none⟩) hg).trans (h j hj).2⟩
theorem BRow.of_str (w : World) (s : ByteArray) : BRow w.heap.size s.data.toList (Lib.bytesWorld w 5 s) ∧ Below w.heap.size w (Lib.bytesWorld w 5 s) := by
  have hold := Lib.bytesWorld_at_old w 5 s
  have hsz := Lib.bytesWorld_size w 5 s
  have hcell := Lib.bytesWorld_cell w 5 s
  have hnew := Lib.bytesWorld_at_new w 5 s
  have hcs : s.size ≤ (Lib.bytesCells w 5 s).size := by unfold Lib.bytesCells; simp
  refine ⟨fun j hj => ⟨?_, ?_⟩, rfl, rfl, rfl, by rw [hsz]; omega, fun k hk => hold k hk⟩
  · have hj2 : j < s.size := by rw [← size_data]; exact hj
    rw [hcell j hj2]
    have : s.data.toList.getD j 0 = s[j] := by rw [List.getD_eq_getElem?_getD, Lib.data_getElem? s j hj2]; rfl
    rw [this]; rfl
  · have hj2 : j < s.size := by rw [← size_data]; exact hj
    unfold World.frozen?
    rw [hnew]
    simp; omega
theorem BRow.back {g : Nat} {l : List UInt8} {W : World} (h : BRow g l W) (n cap : Nat) (hn : n = l.length) :
    (convert 29 9 (.slice (some ⟨g, 0, none⟩) n cap)).run Try.prog W = .ok (.string ⟨l.toArray⟩) W := by
  subst hn
  exact run_convert_bytes_back W 29 9 5 ⟨g, 0, none⟩ cap l Try.underlying29 Try.underlying5 Try.underlying9 (fun j hj => by
    have e : ((⟨g, 0, none⟩ : Addr).add j) = ⟨g, j, none⟩ := by unfold Addr.add; by_cases hj : j = 0 <;> simp [hj]
    rw [e]; exact (h j hj).1)

theorem mapIdx_const (f : UInt8 → UInt8) (l : List UInt8) : l.mapIdx (fun _ c => f c) = l.map f := by
  apply List.ext_getElem (by simp)
  intro j h1 h2; simp
theorem BRow.same {g : Nat} {l : List UInt8} {W : World} (h : BRow g l W) (k : Nat) (hk : k < l.length) (c : UInt8) (e : l[k] = c) : BRow g (l.set k c) W := by
  subst e; rw [List.set_getElem_self]; exact h

end Go.Proofs.Ytckammgnmgkieaa

/-
  Decimals: number.Digits, number.Parse; the document's Number, Digit.
-/
namespace Go.Proofs.Ytckammgnmgkieaa
set_option maxRecDepth 20000
open Go.RowKit Go.Shelf

theorem allDigits_snoc (l : List UInt8) (c : UInt8) : allDigits (l ++ [c]) = (allDigits l && digitU c) := by simp [allDigits]
theorem allDigits_take {l : List UInt8} (h : allDigits l = true) (k : Nat) : allDigits (l.take k) = true := by
  unfold allDigits at *; rw [List.all_eq_true] at *; exact fun x hx => h x (List.mem_of_mem_take hx)
theorem allDigits_not {l : List UInt8} {k : Nat} (hk : k < l.length) (h : digitU l[k] = false) : allDigits l = false := by
  cases e : allDigits l with
  | false => rfl
  | true => unfold allDigits at e; rw [List.all_eq_true] at e; rw [e _ (List.getElem_mem hk)] at h; cases h
theorem digit_boundsI {c : UInt8} (h : digitU c = true) : (48 : Int) ≤ (c.toNat : Int) ∧ (c.toNat : Int) ≤ 57 := by rw [digitU_iff] at h; omega
theorem digit_not {c : UInt8} (h : digitU c = false) : (c.toNat : Int) < 48 ∨ (48 ≤ (c.toNat : Int) ∧ 57 < (c.toNat : Int)) := by
  have : ¬ (48 ≤ c.toNat ∧ c.toNat ≤ 57) := by rw [← digitU_iff, h]; simp
  omega


/-- What number.Parse and Number answer. -/
def NumPost (l : List UInt8) (most : Nat) (w : World) (e : Ending) (w' : World) : Prop := e = .returned (.tuple #[.int .i64 ((numM l most).1 : Int), .int .i64 (numM l most).2]) ∧ w' = w
theorem num_fin {l : List UInt8} {most : Nat} {w : World} {e : Ending} (v : Nat) (er : Int) (h : numM l most = (v, er)) (he : e = .returned (.tuple #[.int .i64 (v : Int), .int .i64 er])) : NumPost l most w e w := by
  unfold NumPost; rw [h]; exact ⟨he, rfl⟩
theorem head_get (s : ByteArray) (h : 0 < s.size) : s.data.toList.head? = some s[0] := by
  rw [List.head?_eq_getElem?, List.getElem?_eq_getElem (by rw [size_data]; exact h)]; rfl
theorem num_over {l : List UInt8} {most k : Nat} (hf : formN l = true) (h : most < valL (l.take k)) : numM l most = (0, 7) := by
  have := valL_prefix (List.take_prefix k l)
  unfold numM; rw [hf, if_pos rfl, if_neg (by omega)]

def NumSt (l : List UInt8) (most k v : Nat) (ov : Bool) : Prop := allDigits (l.take k) = true ∧ (ov = false → v ≤ most ∧ valL (l.take k) = v) ∧ (ov = true → most < valL (l.take k))
end Go.Proofs.Ytckammgnmgkieaa

/-
  Decimals written: the document's Decimal.
-/
namespace Go.Proofs.Ytckammgnmgkieaa
set_option maxRecDepth 20000
open Go.RowKit Go.Shelf

def preD (n : Nat) : List UInt8 := if n < 10 then [] else Lib.decDigits (n / 10)
theorem dec_pre (n : Nat) : Lib.decDigits n = preD n ++ [UInt8.ofNat (48 + n % 10)] := by
  rw [Lib.decDigits]; unfold preD
  by_cases h : n < 10
  · rw [dif_pos h, if_pos h, Nat.mod_eq_of_lt h]; rfl
  · rw [dif_neg h, if_neg h]
theorem dec_len (u : Nat) (h : u < 10 ^ 19) : (Lib.decDigits u).length ≤ 19 := by
  rw [Lib.decDigits_length]
  have : ∀ k u, u < 10 ^ k → Lib.nDigits u ≤ max k 1 := by
    intro k
    induction k with
    | zero => intro u h; rw [Lib.nDigits_small (by simp at h; omega)]; omega
    | succ k ih =>
      intro u h
      rw [Lib.nDigits]
      by_cases h10 : u < 10
      · rw [dif_pos h10]; omega
      · rw [dif_neg h10]
        have := ih (u / 10) (by rw [Nat.pow_succ] at h; omega)
        rcases k with _ | k
        · simp at h; omega
        · omega
  have := this 19 u h
  omega

theorem one_byte (W : World) (x : Int) (c : UInt8) (h : x = (c.toNat : Int)) :
    (convert 29 9 (.slice (some ⟨W.heap.size, 0, none⟩) 1 1)).run Try.prog (W.alloc (.cells #[.int .u8 x] 5)) = .ok (.string ⟨#[c]⟩) (W.alloc (.cells #[.int .u8 x] 5)) := by
  subst h
  refine run_convert_bytes_back _ _ _ _ _ 1 [c] Try.underlying29 Try.underlying5 Try.underlying9 ?_
  intro j hj
  refine cells_new W [.int .u8 (c.toNat : Int)] 5 j _ ?_
  obtain rfl : j = 0 := by simp at hj; exact hj
  rfl
theorem digit_int (n : Nat) : (48 : Int) + (n : Int) % 10 = ((UInt8.ofNat (48 + n % 10)).toNat : Int) := by
  have : (UInt8.ofNat (48 + n % 10)).toNat = 48 + n % 10 := by simp; omega
  rw [this]; omega

end Go.Proofs.Ytckammgnmgkieaa

/-
  The document's types: Types, typeName, Known, TypeText, ParseType.
-/
namespace Go.Proofs.Ytckammgnmgkieaa
set_option maxRecDepth 20000
open Go.RowKit Go.Shelf

theorem rowOfT_first {t : Int} {k : Nat} (hk : k < 9) (h : typeT k = t) (hn : ∀ j, j < k → typeT j ≠ t) : rowOfT t = some k := by
  unfold rowOfT; rw [List.find?_range_eq_some]
  exact ⟨decide_eq_true h, by simpa using hk, fun j hj => by simpa using hn j hj⟩
theorem rowOfT_never {t : Int} (h : ∀ j, j < 9 → typeT j ≠ t) : rowOfT t = none := by
  unfold rowOfT; rw [List.find?_eq_none]; intro j hj; simpa using h j (by simpa using hj)
theorem rowOfS_first {s : List UInt8} {k : Nat} (hk : k < 9) (h : typeS k = s) (hn : ∀ j, j < k → typeS j ≠ s) : rowOfS s = some k := by
  unfold rowOfS; rw [List.find?_range_eq_some]
  exact ⟨decide_eq_true h, by simpa using hk, fun j hj => by simpa using hn j hj⟩
theorem rowOfS_never {s : List UInt8} (h : ∀ j, j < 9 → typeS j ≠ s) : rowOfS s = none := by
  unfold rowOfS; rw [List.find?_eq_none]; intro j hj; simpa using h j (by simpa using hj)

/-- A row of integers in block g. -/
def TRow (g : Nat) (W : World) : Prop := g < W.heap.size ∧ ∀ j, j < 9 → W.cell? ⟨g, j, none⟩ = some (.int .i64 (typeT j))
theorem TRow.below {g : Nat} {W W' : World} (h : TRow g W) (hb : Below W.heap.size W W') : TRow g W' := ⟨Nat.lt_of_lt_of_le h.1 hb.size, fun j hj => (hb.cell (p := ⟨g, j, none⟩) h.1).trans (h.2 j hj)⟩
def TypesPost (w : World) (e : Ending) (w' : World) : Prop := ∃ g, e = .returned (.slice (some ⟨g, 0, none⟩) 9 9) ∧ TRow g w' ∧ Below w.heap.size w w'

theorem name_known (t : Int) : knownM t = !(typeNameM t).isEmpty := by
  unfold knownM typeNameM
  cases h : rowOfT t with
  | none => rfl
  | some j =>
    have := (typeS_ne j (find_range h).1).1
    simp only [Option.isSome_some]
    cases hs : typeS j with
    | nil => exact absurd hs this
    | cons a b => rfl

end Go.Proofs.Ytckammgnmgkieaa

