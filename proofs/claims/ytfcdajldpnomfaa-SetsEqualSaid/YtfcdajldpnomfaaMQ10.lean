/-
  The document's names: NameText; the statements' own helpers of layer 2: Few, Is.
-/
import Derived.Test.YtfcdajldpnomfaaMQ19
import Derived.Test.YtfcdajldpnomfaaMQ24
import Derived.BigQuiet
import Derived.Deep.RegionHeld3
import Derived.Test.YtfcdajldpnomfaaMQ16
namespace Go.Proofs.Ytfcdajldpnomfaa
set_option maxRecDepth 20000
open Go.RowKit Go.Shelf

def fewN (xs : Nm) : Bool := decide (xs.length ≤ 140 ∧ ∀ x ∈ xs, x.length ≤ 100)
theorem fewN_ok {xs : Nm} (h : fewN xs = true) : NmOK xs := by
  have := of_decide_eq_true h
  exact ⟨by omega, fun x hx => by have := this.2 x hx; omega⟩

set_option maxHeartbeats 4000000 in
theorem law2_Few (v : Value) (xs : Nm) (w : World) (hA : StrsAt w v xs) (hm : xs.length ≤ maxLen) (hk : ∀ x ∈ xs, x.length ≤ maxLen) :
    Calls Try.prog 17 #[v] w fun e w' => e = .returned (.bool (fewN xs)) ∧ w' = w := by
  obtain ⟨a, c, rfl, _⟩ := id hA
  unfold maxLen at hm hk
  obtain ⟨n, hn⟩ : ∃ n, xs.length = n := ⟨_, rfl⟩
  have hcell := fun j hj => hA.cell (Below.refl _ w) j hj
  rw [hn] at hm ⊢
  have HN := Lib.hid hn
  clear hA hn
  by_cases hbig : 140 < (n : Int)
  · have H0 : Hid (fewN xs = false) := Lib.hid (decide_eq_false (fun h => by have := HN.out; omega))
    go_enter Try.func17, Try.ntmps17
    go_wp2
    go_ret
    exact ⟨by rw [H0.out]; rfl, rfl⟩
  go_enter Try.func17, Try.ntmps17
  go_wp2
  go_loopw [3] (fun i wr => ∃ k : Nat, i = .int .i64 k ∧ k ≤ n ∧ Hid (∀ x ∈ xs.take k, x.length ≤ 100) ∧ wr = w) (fun i _ => n - (intOf i).toNat)
  case atStart => exact ⟨0, rfl, Nat.zero_le _, Lib.hid (by simp), rfl⟩
  case round =>
    obtain ⟨k, rfl, hkn, HC, rfl⟩ := hrel
    by_cases hlt : k < n
    · have hkp : k < xs.length := by rw [HN.out]; exact hlt
      obtain ⟨g, off, rfl, hg, hc⟩ := hcell k hkp
      obtain ⟨s, hs0, hsz, hsv⟩ := str_of xs[k]
      rw [hsv] at hc
      have hxk := hk _ (List.getElem_mem hkp)
      rw [← hsz] at hxk
      by_cases hb : 100 < (s.size : Int)
      · have H0 : Hid (fewN xs = false) := Lib.hid (decide_eq_false (fun h => by have := h.2 _ (List.getElem_mem hkp); omega))
        clear hs0 hsz hsv hk
        go_wp2
        go_ret
        exact ⟨by rw [H0.out]; rfl, rfl⟩
      · have HC2 : Hid (∀ x ∈ xs.take (k + 1), x.length ≤ 100) := Lib.hid (by
          intro x hx; rw [List.take_succ_eq_append_getElem hkp] at hx
          rcases List.mem_append.1 hx with h | h
          · exact HC.out x h
          · obtain rfl := List.mem_singleton.1 h; omega)
        clear hs0 hsz hsv hk
        go_wp2
        go_roundw
        case rel => exact ⟨k + 1, by go_num, by omega, HC2, trivial⟩
        case measure => simp [intOf]; omega
    · obtain rfl : k = n := by omega
      have H0 : Hid (fewN xs = true) := Lib.hid (decide_eq_true ⟨by have := HN.out; omega, by have h := HC.out; rw [List.take_of_length_le (by rw [HN.out]; exact Nat.le_refl _)] at h; exact h⟩)
      clear hk
      go_wp2
      go_ret
      exact ⟨by rw [H0.out]; rfl, rfl⟩

end Go.Proofs.Ytfcdajldpnomfaa

/-
  The statements' own helper of layer 2: Is.
-/
namespace Go.Proofs.Ytfcdajldpnomfaa
set_option maxRecDepth 20000
open Go.RowKit Go.Shelf

end Go.Proofs.Ytfcdajldpnomfaa

/-
  The statements' own helper of layer 2: Good.
-/
namespace Go.Proofs.Ytfcdajldpnomfaa
set_option maxRecDepth 20000
open Go.RowKit Go.Shelf

def goodN (xs : Nm) : Bool := fewN xs && decide (checkN xs = 0)
end Go.Proofs.Ytfcdajldpnomfaa

/-
  The document's names (package toponymref6): Same, Under.
-/
namespace Go.Proofs.Ytfcdajldpnomfaa
set_option maxRecDepth 20000
open Go.RowKit Go.Shelf

theorem keepS2 {n : Nat} {w W W' : World} {p q : Addr} {u v : Value} (h : W.cell? p = some u ∧ W.cell? q = some v ∧ Below n w W) (hb : Below W.heap.size W W') (hp : p.block < n) (hq : q.block < n) (hn : n ≤ w.heap.size) :
    W'.cell? p = some u ∧ W'.cell? q = some v ∧ Below n w W' := by
  have hz := h.2.2.size
  exact ⟨(hb.cell (by omega)).trans h.1, (hb.cell (by omega)).trans h.2.1, h.2.2.trans (hb.mono (by omega))⟩

theorem nm_nil (W : World) : NmAt W (.slice none 0 0) [] := ⟨⟨_, _, rfl, .inl rfl⟩, SlOK.nil⟩
theorem foldN_cons (x : List UInt8) (r : Nm) : foldN (x :: r) = foldL x :: foldN r := rfl
theorem foldL_size (l : List UInt8) : (foldL l).length = l.length := by simp [foldL]

end Go.Proofs.Ytfcdajldpnomfaa

/-
  The stable sort, block by block: what its loops keep.
-/
namespace Go.Proofs.Ytfcdajldpnomfaa.Stb
open Go.Sort
set_option linter.unusedSectionVars false
variable {α : Type} [Inhabited α] {cf : α → α → Int} {tg : α → Nat}

def lb (cf : α → α → Int) (x y : α) : Bool := decide (cf x y < 0)

structure InsR (cf : α → α → Int) (tg : α → Nat) (a j i : Nat) (d : Array α) : Prop where
  rest : ∀ p q, a ≤ p → p < q → q ≤ i → p ≠ j → q ≠ j → Lx cf tg d[p]! d[q]!
  right : ∀ q, j < q → q ≤ i → Lx cf tg d[j]! d[q]!
  most : ∀ q, a ≤ q → q ≤ i → q ≠ j → tg d[q]! < tg d[j]!

theorem InsR.stop (hO : COrd cf) {a j i : Nat} {d : Array α} (h : InsR cf tg a j i d) (haj : a ≤ j) (hji : j ≤ i) (hs : j ≤ a ∨ lb cf d[j]! d[j - 1]! = false) : Rise cf tg a (i + 1) d := by
  have hl : ∀ p, a ≤ p → p < j → Lx cf tg d[p]! d[j]! := fun p h1 h2 => by
    rcases hs with hs | hs
    · omega
    · have hx : Lx cf tg d[j - 1]! d[j]! := Lx.of_not hO (h.most _ (by omega) (by omega) (by omega)) (by simpa [lb] using hs)
      by_cases e : p = j - 1
      · subst e; exact hx
      · exact (h.rest p (j - 1) h1 (by omega) (by omega) (by omega) (by omega)).trans hO hx
  intro p q hap hpq hqi
  by_cases hq : q = j
  · subst hq; exact hl p hap hpq
  · by_cases hp : p = j
    · subst hp; exact h.right q hpq (by omega)
    · exact h.rest p q hap hpq (by omega) hp hq

theorem InsR.step {a j i : Nat} {d : Array α} (h : InsR cf tg a (j + 1) i d) (hl : lb cf d[j + 1]! d[j]! = true) (haj : a ≤ j) (hji : j + 1 ≤ i) (hsz : j + 1 < d.size) : InsR cf tg a j i (swp d (j + 1) j) := by
  have g := swp_get d hsz (show j < d.size by omega)
  have hl' : cf d[j + 1]! d[j]! < 0 := by simpa [lb] using hl
  refine ⟨fun p q hap hpq hqi hp hq => ?_, fun q hjq hqi => ?_, fun q haq hqi hq => ?_⟩
  · rw [g, g]
    repeat' split
    all_goals first
      | (exfalso; omega)
      | exact h.rest _ _ (by omega) (by omega) (by omega) (by omega) (by omega)
  · rw [g, g, if_pos rfl]
    repeat' split
    all_goals first
      | (exfalso; omega)
      | exact Or.inl hl'
      | exact h.right _ (by omega) (by omega)
  · rw [g, g, if_pos rfl]
    repeat' split
    all_goals first
      | (exfalso; omega)
      | exact h.most _ (by omega) (by omega) (by omega)

theorem insInner_rise (hO : COrd cf) (a i : Nat) : ∀ (j : Nat) (d : Array α), a ≤ j → j ≤ i → i + 1 ≤ d.size → InsR cf tg a j i d →
    PermIn a (i + 1) d (insInner (lb cf) a j d) ∧ Rise cf tg a (i + 1) (insInner (lb cf) a j d)
  | 0, d, h1, h2, _, hI => by
    unfold insInner
    exact ⟨permIn_refl d a _, hI.stop hO h1 h2 (Or.inl (Nat.zero_le _))⟩
  | j + 1, d, haj, hji, hb, hI => by
    unfold insInner
    split
    · rename_i hc
      simp only [Bool.and_eq_true, decide_eq_true_eq] at hc
      have ih := insInner_rise hO a i j (swp d (j + 1) j) (by omega) (by omega) (by rw [swp_size]; exact hb) (hI.step hc.2 (by omega) hji (by omega))
      exact ⟨permIn_trans _ _ _ a (i + 1) (swp_permIn d a (i + 1) (j + 1) j haj (by omega) (by omega) (by omega) hb) ih.1, ih.2⟩
    · rename_i hc
      simp only [Bool.and_eq_true, decide_eq_true_eq, not_and, Bool.not_eq_true] at hc
      refine ⟨permIn_refl d a _, hI.stop hO haj hji ?_⟩
      by_cases h : j + 1 > a
      · exact Or.inr (by simpa using hc h)
      · exact Or.inl (by omega)

theorem insOuter_rise (hO : COrd cf) (a b : Nat) : ∀ (n i : Nat) (d : Array α), b - i = n → a < i → i ≤ b → b ≤ d.size → Rise cf tg a i d → (∀ p q, a ≤ p → p < q → i ≤ q → q < b → tg d[p]! < tg d[q]!) →
    PermIn a b d (insOuter (lb cf) a b i d) ∧ Rise cf tg a b (insOuter (lb cf) a b i d)
  | 0, i, d, hn, _, hib, _, hs, _ => by
    obtain rfl : i = b := by omega
    rw [insOuter, if_neg (by omega)]
    exact ⟨permIn_refl d a i, hs⟩
  | n + 1, i, d, hn, hai, hib, hb, hs, ht => by
    have hlt : i < b := by omega
    rw [insOuter, if_pos hlt]
    have h1 := insInner_rise hO a i i d (by omega) (Nat.le_refl _) (by omega) ⟨fun p q hap hpq hqi _ hq => hs p q hap hpq (by omega), fun q h1 h2 => by omega, fun q h1 h2 h3 => ht q i h1 (by omega) (Nat.le_refl _) hlt⟩
    have hp := h1.1
    have ht2 : ∀ p q, a ≤ p → p < q → i + 1 ≤ q → q < b → tg (insInner (lb cf) a i d)[p]! < tg (insInner (lb cf) a i d)[q]! := fun p q g1 g2 g3 g4 => by
      rw [hp.2.1 q (Or.inr g3)]
      by_cases hpi : p < i + 1
      · exact permIn_all d _ a (i + 1) (fun x => tg x < tg d[q]!) (by omega) hp (fun k k1 k2 => ht k q k1 (by omega) (by omega) g4) p g1 hpi
      · rw [hp.2.1 p (Or.inr (by omega))]; exact ht p q g1 g2 (by omega) g4
    have h2 := insOuter_rise hO a b n (i + 1) (insInner (lb cf) a i d) (by omega) (by omega) (by omega) (by rw [hp.1]; exact hb) h1.2 ht2
    exact ⟨permIn_trans _ _ _ a b (permIn_mono _ _ a (i + 1) a b (Nat.le_refl _) (by omega) hb hp) h2.1, h2.2⟩

theorem insertion_rise (hO : COrd cf) (d : Array α) (a b : Nat) (hab : a ≤ b) (hb : b ≤ d.size) (ht : ∀ p q, a ≤ p → p < q → q < b → tg d[p]! < tg d[q]!) :
    PermIn a b d (insertionSort (lb cf) d a b) ∧ Rise cf tg a b (insertionSort (lb cf) d a b) := by
  unfold insertionSort
  by_cases h : a = b
  · subst h
    rw [insOuter, if_neg (by omega)]
    exact ⟨permIn_refl d a a, fun i j h1 h2 h3 => by omega⟩
  · exact insOuter_rise hO a b (b - (a + 1)) (a + 1) d rfl (by omega) (by omega) hb (fun i j h1 h2 h3 => by omega) (fun p q h1 h2 h3 h4 => ht p q h1 h2 h4)

/-! Blocks. -/
/-- Blocks of so many: each rises, each has its own. -/
structure Blk (cf : α → α → Int) (tg : α → Nat) (s : Nat) (d : Array α) : Prop where
  own : ∀ q i, q * s ≤ i → i < q * s + s → i < d.size → q * s ≤ tg d[i]! ∧ tg d[i]! < q * s + s
  up : ∀ q i j, q * s ≤ i → i < j → j < q * s + s → j < d.size → Lx cf tg d[i]! d[j]!
/-- Up to a: blocks of so many; from there on as it came. -/
structure Blk0 (cf : α → α → Int) (tg : α → Nat) (s a : Nat) (d : Array α) : Prop where
  own : ∀ q i, q * s ≤ i → i < q * s + s → i < a → q * s ≤ tg d[i]! ∧ tg d[i]! < q * s + s
  up : ∀ q i j, q * s ≤ i → i < j → j < q * s + s → j < a → Lx cf tg d[i]! d[j]!
  rest : ∀ i, a ≤ i → i < d.size → tg d[i]! = i
theorem Blk0.start {s : Nat} {d : Array α} (h : ∀ i, i < d.size → tg d[i]! = i) : Blk0 cf tg s 0 d := ⟨fun q i h1 h2 h3 => by omega, fun q i j h1 h2 h3 h4 => by omega, fun i _ h1 => h i h1⟩
theorem blk_lt {q r s : Nat} (h : q < r) : q * s + s ≤ r * s := by
  have := Nat.mul_le_mul_right s (show q + 1 ≤ r from h); rwa [Nat.succ_mul] at this
theorem Blk0.tags {s a e : Nat} {d : Array α} (h : Blk0 cf tg s a d) (he : e ≤ d.size) : ∀ p q, a ≤ p → p < q → q < e → tg d[p]! < tg d[q]! := fun p q h1 h2 h3 => by
  rw [h.rest p h1 (by omega), h.rest q (by omega) (by omega)]; exact h2
/-- One block more. -/
theorem Blk0.next {s r e : Nat} {d d' : Array α} (h : Blk0 cf tg s (r * s) d) (he : e ≤ d.size) (hae : r * s ≤ e) (hes : e ≤ r * s + s) (hp : PermIn (r * s) e d d') (hr : Rise cf tg (r * s) e d') : Blk0 cf tg s e d' := by
  have lo : ∀ i, i < r * s → d'[i]! = d[i]! := fun i hi => hp.2.1 i (Or.inl hi)
  have mid : ∀ i, r * s ≤ i → i < e → r * s ≤ tg d'[i]! ∧ tg d'[i]! < e := permIn_all d d' (r * s) e (fun x => r * s ≤ tg x ∧ tg x < e) he hp (fun i h1 h2 => by rw [h.rest i h1 (by omega)]; exact ⟨h1, h2⟩)
  refine ⟨fun q i h1 h2 h3 => ?_, fun q i j h1 h2 h3 h4 => ?_, fun i h1 h2 => ?_⟩
  · by_cases hi : i < r * s
    · rw [lo i hi]; exact h.own q i h1 h2 hi
    · have hqr : q = r := by
        rcases Nat.lt_trichotomy q r with hh | hh | hh
        · have := blk_lt (s := s) hh; omega
        · exact hh
        · have := blk_lt (s := s) hh; omega
      subst hqr
      have := mid i (by omega) h3
      omega
  · by_cases hj : j < r * s
    · rw [lo i (by omega), lo j hj]; exact h.up q i j h1 h2 h3 hj
    · have hqr : q = r := by
        rcases Nat.lt_trichotomy q r with hh | hh | hh
        · have := blk_lt (s := s) hh; omega
        · exact hh
        · have := blk_lt (s := s) hh; omega
      subst hqr
      exact hr i j h1 h2 h4
  · rw [hp.2.1 i (Or.inr h1)]
    exact h.rest i (by omega) (by rw [← hp.1]; exact h2)
theorem Blk0.whole {s : Nat} {d : Array α} (h : Blk0 cf tg s d.size d) : Blk cf tg s d := ⟨h.own, h.up⟩
theorem Blk.rise {s : Nat} {d : Array α} (h : Blk cf tg s d) (hs : d.size ≤ s) : Rise cf tg 0 d.size d := fun i j _ h2 h3 => h.up 0 i j (by omega) h2 (by omega) h3

/-- Up to a: blocks of twice so many; from there on of so many. -/
structure Blk2 (cf : α → α → Int) (tg : α → Nat) (s a : Nat) (d : Array α) : Prop where
  own2 : ∀ q i, q * (2 * s) ≤ i → i < q * (2 * s) + 2 * s → i < d.size → q * (2 * s) ≤ tg d[i]! ∧ tg d[i]! < q * (2 * s) + 2 * s
  own : ∀ q i, a ≤ i → q * s ≤ i → i < q * s + s → i < d.size → q * s ≤ tg d[i]! ∧ tg d[i]! < q * s + s
  up2 : ∀ q i j, q * (2 * s) ≤ i → i < j → j < q * (2 * s) + 2 * s → j < a → Lx cf tg d[i]! d[j]!
  up : ∀ q i j, a ≤ i → q * s ≤ i → i < j → j < q * s + s → j < d.size → Lx cf tg d[i]! d[j]!
theorem twice (q s : Nat) : q * (2 * s) = 2 * q * s ∧ (2 * q + 1) * s = 2 * q * s + s := ⟨by rw [← Nat.mul_assoc, Nat.mul_comm q 2], by rw [Nat.succ_mul]⟩
theorem Blk2.start {s : Nat} {d : Array α} (h : Blk cf tg s d) : Blk2 cf tg s 0 d := by
  refine ⟨fun q i h1 h2 h3 => ?_, fun q i _ => h.own q i, fun q i j h1 h2 h3 h4 => by omega, fun q i j _ => h.up q i j⟩
  obtain ⟨e1, e2⟩ := twice q s
  by_cases hi : i < 2 * q * s + s
  · have := h.own (2 * q) i (by omega) hi h3; omega
  · have := h.own (2 * q + 1) i (by omega) (by omega) h3; omega
/-- What is to be merged. -/
theorem Blk2.mrg {s r e : Nat} {d : Array α} (h : Blk2 cf tg s (r * (2 * s)) d) (hs : 0 < s) (he : e ≤ d.size) (h1 : r * (2 * s) + s < e) (h2 : e ≤ r * (2 * s) + 2 * s) : Mrg cf tg (r * (2 * s)) (r * (2 * s) + s) e d := by
  obtain ⟨e1, e2⟩ := twice r s
  refine ⟨by omega, h1, he, fun i j g1 g2 g3 => h.up (2 * r) i j g1 (by omega) g2 (by omega) (by omega), fun i j g1 g2 g3 => h.up (2 * r + 1) i j (by omega) (by omega) g2 (by omega) (by omega), fun i j g1 g2 g3 g4 => ?_⟩
  have a1 := h.own (2 * r) i g1 (by omega) (by omega) (by omega)
  have a2 := h.own (2 * r + 1) j (by omega) (by omega) (by omega) (by omega)
  omega
/-- Behind it. -/
theorem Blk2.next {s r e : Nat} {d d' : Array α} (h : Blk2 cf tg s (r * (2 * s)) d) (he : e ≤ d.size) (h1 : r * (2 * s) ≤ e) (h2 : e ≤ r * (2 * s) + 2 * s) (h3 : e = r * (2 * s) + 2 * s ∨ e = d.size) (hp : PermIn (r * (2 * s)) e d d') (hr : Rise cf tg (r * (2 * s)) e d') : Blk2 cf tg s e d' := by
  obtain ⟨e1, e2⟩ := twice r s
  have lo : ∀ i, i < r * (2 * s) → d'[i]! = d[i]! := fun i hi => hp.2.1 i (Or.inl hi)
  have up : ∀ i, e ≤ i → d'[i]! = d[i]! := fun i hi => hp.2.1 i (Or.inr hi)
  have mid : ∀ i, r * (2 * s) ≤ i → i < e → r * (2 * s) ≤ tg d'[i]! ∧ tg d'[i]! < r * (2 * s) + 2 * s := permIn_all d d' _ e (fun x => r * (2 * s) ≤ tg x ∧ tg x < r * (2 * s) + 2 * s) he hp (fun i k1 k2 => h.own2 r i k1 (by omega) (by omega))
  have hsz := hp.1
  refine ⟨fun q i k1 k2 k3 => ?_, fun q i k0 k1 k2 k3 => ?_, fun q i j k1 k2 k3 k4 => ?_, fun q i j k0 k1 k2 k3 k4 => ?_⟩
  · by_cases hi : i < r * (2 * s)
    · rw [lo i hi]; exact h.own2 q i k1 k2 (by omega)
    · by_cases hie : i < e
      · have hqr : q = r := by
          rcases Nat.lt_trichotomy q r with hh | hh | hh
          · have := blk_lt (s := 2 * s) hh; omega
          · exact hh
          · have := blk_lt (s := 2 * s) hh; omega
        subst hqr
        exact mid i (by omega) hie
      · rw [up i (by omega)]; exact h.own2 q i k1 k2 (by omega)
  · rw [up i k0]; exact h.own q i (by omega) k1 k2 (by omega)
  · by_cases hj : j < r * (2 * s)
    · rw [lo i (by omega), lo j hj]; exact h.up2 q i j k1 k2 k3 hj
    · have hqr : q = r := by
        rcases Nat.lt_trichotomy q r with hh | hh | hh
        · have := blk_lt (s := 2 * s) hh; omega
        · exact hh
        · have := blk_lt (s := 2 * s) hh; omega
      subst hqr
      exact hr i j k1 k2 k4
  · rw [up i k0, up j (by omega)]; exact h.up q i j (by omega) k1 k2 k3 (by omega)
/-- The last block may be none. -/
theorem Blk2.short {s r : Nat} {d : Array α} (h : Blk2 cf tg s (r * (2 * s)) d) (h1 : d.size ≤ r * (2 * s) + s) : Rise cf tg (r * (2 * s)) d.size d := by
  obtain ⟨e1, e2⟩ := twice r s
  exact fun i j g1 g2 g3 => h.up (2 * r) i j g1 (by omega) g2 (by omega) g3
theorem Blk2.whole {s a : Nat} {d : Array α} (h : Blk2 cf tg s a d) (ha : d.size ≤ a) : Blk cf tg (2 * s) d := ⟨h.own2, fun q i j h1 h2 h3 h4 => h.up2 q i j h1 h2 h3 (by omega)⟩
end Go.Proofs.Ytfcdajldpnomfaa.Stb

