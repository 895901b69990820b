import Derived.Shelf.SlSortFuncK.RowK2
import Derived.Shelf.SlicesQ.Reverse
import Derived.RegionCalls
import Derived.WalkKit
import Derived.Deep.LoopGhost
import Derived.Shelf.RegionOpenPlain
import Derived.Shelf.SlSortCmp.Insertion
import Derived.Test.YtckammgnmgkieaaGreatMQ26
import Derived.Test.YtckammgnmgkieaaGreatMQ10
namespace Go.Proofs.YtckammgnmgkieaaGreat
set_option maxRecDepth 20000
set_option maxHeartbeats 8000000
open Go.RowKit Go.Shelf
theorem elemS : ElemT 9 23 16 := ⟨Tryz.underlying23, _, _, rfl, rfl, rfl, rfl, rfl⟩
theorem ql1 (v vf vt : Value) (n f t : Nm) (w : World) (hA : NmAt w v n) (hF : NmAt w vf f) (hT : NmAt w vt t) (hk : NmOK n) (hkf : NmOK f) (hkt : NmOK t) (hall : NmOK (n.take (n.length - f.length) ++ t)) :
 Calls Tryz.prog 97 #[v, vf, vt] w (qcc n f t w) := by
 obtain ⟨a, c, rfl, _⟩ := id hA.1
 obtain ⟨af, cf, rfl, _⟩ := id hF.1
 obtain ⟨at', ct, rfl, _⟩ := id hT.1
 have hl := hk.1; have hlf := hkf.1; have hlt := hkt.1
 obtain ⟨a0, n0, c0, e0, hcap, hno⟩ := id hA.2
 cases e0
 have hO2 := hT.2
 have hUn := fun W h1 h2 => qg0 (.slice a n.length c) (.slice af f.length cf) n f W h1 h2 hk hkf
 by_cases hu : underN n f = true
 ·have hge : f.length ≤ n.length := qa1 hu
  have hres : swapN n f t = if checkN (n.take (n.length - f.length) ++ t) = 0 then (n.take (n.length - f.length) ++ t, 0) else ([], 7) := by unfold swapN; rw [if_pos hu]
  have htl : (n.take (n.length - f.length)).length = n.length - f.length := by simp
  have hTk := fun W (h : StrsAt W (.slice a n.length c) n) => qgG h (n.length - f.length) (by omega) c
  have hdn : n.length - f.length ≤ c := by omega
  generalize hps : n.take (n.length - f.length) = ps at *
  have HR := qH0 hres; have HU := qH0 hu
  have HPL := qH0 htl
  clear hres hps htl
  obtain ⟨q, hq⟩ : ∃ q, checkN (ps ++ t) = q := ⟨_, rfl⟩
  have hCk := fun W v2 (h : OwnG 9 strV W w.heap.size v2 (ps ++ t)) => qbJ v2 (ps ++ t) W (StrsAt.of_own h) hall
  rw [hq] at hCk HR
  have hb0 : ∀ wu, Below w.heap.size w wu → OwnG 9 strV (wu.alloc (.cells #[] 9)) w.heap.size (.slice (some ⟨wu.heap.size, 0, none⟩) 0 0) [] := fun wu hbu => OwnG.lit (T := 9) (enc := strV) wu w.heap.size hbu.size [] (by simp)
  by_cases hq0 : (q != 0) = true
  ·have H0 : Hid (swapN n f t = ([], 7)) := qH0 (by rw [HR.out, if_neg (by simpa using hq0)])
   clear HR hq
   go_enter Tryz.func97, Tryz.ntmps97
   go_wp2_with (first | (go_at_call 73; refine (hUn _ hA hF.1).mono ?_; rintro e wu ⟨rfl, hbu⟩; rw [HU.out]; have hlit := hb0 wu hbu; have hB0 : Below w.heap.size w (wu.alloc (.cells #[] 9)) := hbu.alloc hbu.size _) | (at_builtin; refine qaF (wu.alloc (.cells #[] 9)) rfl (.tmp 13) (.tmp 20) elemS rfl w.heap.size (.slice (some ⟨wu.heap.size, 0, none⟩) 0 0) [] rfl hlit (.slice a (n.length - f.length) c) ps rfl (hTk _ (hA.1.below hB0)) ⟨_, _, _, rfl, hdn, hno⟩ hB0.size (by have := HPL.out; unfold maxLen; simp; omega) (by have := HPL.out; simp; omega) ?_; intro v1 w1 hown1 hg1; have hB1 : Below w.heap.size w w1 := hB0.grown hg1 hB0.size hlit.base_le) | (at_builtin; refine qaF w1 rfl (.tmp 21) (.tmp 22) elemS rfl w.heap.size v1 ps rfl hown1 (.slice at' t.length ct) t rfl (hT.1.below hB1) hO2 hB1.size (by have := HPL.out; unfold maxLen; omega) (by have := HPL.out; omega) ?_; intro v2 w2 hown2 hg2; have hB2 : Below w.heap.size w w2 := hB1.grown hg2 hB1.size hown1.base_le) | (go_at_call 68; refine (hCk _ _ hown2).mono ?_; rintro e w3 ⟨rfl, rfl⟩))
   go_ret2
   exact qca [] 7 H0.out rfl (OwnG.nil _ _) hB2
  ·have hq1 : (q != 0) = false := by simpa using hq0
   have H0 : Hid (swapN n f t = (ps ++ t, 0)) := qH0 (by rw [HR.out, if_pos (by simpa using hq1)])
   clear HR hq hq0
   go_enter Tryz.func97, Tryz.ntmps97
   go_wp2_with (first | (go_at_call 73; refine (hUn _ hA hF.1).mono ?_; rintro e wu ⟨rfl, hbu⟩; rw [HU.out]; have hlit := hb0 wu hbu; have hB0 : Below w.heap.size w (wu.alloc (.cells #[] 9)) := hbu.alloc hbu.size _) | (at_builtin; refine qaF (wu.alloc (.cells #[] 9)) rfl (.tmp 13) (.tmp 20) elemS rfl w.heap.size (.slice (some ⟨wu.heap.size, 0, none⟩) 0 0) [] rfl hlit (.slice a (n.length - f.length) c) ps rfl (hTk _ (hA.1.below hB0)) ⟨_, _, _, rfl, hdn, hno⟩ hB0.size (by have := HPL.out; unfold maxLen; simp; omega) (by have := HPL.out; simp; omega) ?_; intro v1 w1 hown1 hg1; have hB1 : Below w.heap.size w w1 := hB0.grown hg1 hB0.size hlit.base_le) | (at_builtin; refine qaF w1 rfl (.tmp 21) (.tmp 22) elemS rfl w.heap.size v1 ps rfl hown1 (.slice at' t.length ct) t rfl (hT.1.below hB1) hO2 hB1.size (by have := HPL.out; unfold maxLen; omega) (by have := HPL.out; omega) ?_; intro v2 w2 hown2 hg2; have hB2 : Below w.heap.size w w2 := hB1.grown hg2 hB1.size hown1.base_le) | (go_at_call 68; refine (hCk _ _ hown2).mono ?_; rintro e w3 ⟨rfl, rfl⟩))
   go_ret2
   exact qca (ps ++ t) 0 H0.out rfl hown2 hB2
 ·have hu0 : underN n f = false := by simpa using hu
  have H0 : Hid (swapN n f t = ([], 12)) := qH0 (by unfold swapN; rw [if_neg hu])
  have HU := qH0 hu0; clear hu hu0
  go_enter Tryz.func97, Tryz.ntmps97
  go_wp2_with (go_at_call 73; refine (hUn _ hA hF.1).mono ?_; rintro e wu ⟨rfl, hbu⟩; rw [HU.out])
  go_ret2
  exact qca [] 12 H0.out rfl (OwnG.nil _ _) hbu
theorem qd4 (v u : Value) (n z : Nm) (r : Bool) (h : underN n z = r) (w : World) (hA : NmAt w v n) (hU : NmAt w u z) (h1 : NmOK n) (h2 : NmOK z) :
 Calls Tryz.prog 73 #[v, u] w fun e w' => e = .returned (.bool r) ∧ Below w.heap.size w w' := by
 subst h; exact qg0 v u n z w hA hU.1 h1 h2
theorem qbq (v u : Value) (n z : Nm) (r : Bool) (h : sameN n z = r) (w : World) (hA : NmAt w v n) (hU : NmAt w u z) (h1 : NmOK n) (h2 : NmOK z) :
 Calls Tryz.prog 55 #[v, u] w fun e w' => e = .returned (.bool r) ∧ Below w.heap.size w w' := by
 subst h; exact qhz v u n z w hA.1 hU.1 h1 h2
theorem qiN (v u : Value) (n z : Nm) (r : Int) (h : qai n z = r) (w : World) (hA : NmAt w v n) (hU : NmAt w u z) (h1 : NmOK n) (h2 : NmOK z) :
 Calls Tryz.prog 155 #[v, u] w fun e w' => e = .returned (.int .i64 r) ∧ Below w.heap.size w w' := by
 subst h; exact qeZ v u n z w hA.1 hU.1 h1 h2
theorem qks (s : ByteArray) (v : Value) (n l : Nm) (k : Nat) (h : s.data.toList :: n = l) (hk : l.length = k) (w : World) (hA : NmAt w v n) (h1 : NmOK n) :
 Calls Tryz.prog 76 #[.string s, v] w (NmRes l k w) := by
 subst h; refine (qkI s v n w hA h1).mono ?_
 rintro e w' ⟨v', rfl, ho, hb⟩; exact qh5 hk ho hb
theorem qhv (v : Value) (n : Nm) (t : List UInt8) (h : textN n = t) (w : World) (hA : NmAt w v n) (h1 : NmOK n) :
 Calls Tryz.prog 141 #[v] w fun e w' => e = .returned (.string ⟨t.toArray⟩) ∧ Below w.heap.size w w' := by
 subst h; exact qif v n w hA.1 h1
theorem qkw (v : Value) (n : Nm) (r : Int) (h : checkN n = r) (w : World) (hA : NmAt w v n) (h1 : NmOK n) :
 Calls Tryz.prog 68 #[v] w fun e w' => e = .returned (.int .i64 r) ∧ Below w.heap.size w w' := by
 subst h; refine (qbJ v n w hA.1 h1).mono ?_
 rintro e w' ⟨rfl, rfl⟩; exact ⟨rfl, qL0⟩
def NmArg (W : World) (v : Value) (xs : Nm) : Prop := NmAt W v xs ∧ xs.length ≤ maxLen ∧ ∀ x ∈ xs, x.length ≤ maxLen
theorem qeq (W : World) : NmArg W (.slice none 0 0) [] := ⟨nm_nil W, Nat.zero_le _, by simp⟩
theorem qep {W : World} {x : Addr} {l c : Nat} {zs : List ByteArray} (hl : l ≤ c) (hm : c ≤ maxLen) (hz : zs.length = c)
 (hcell : ∀ i, i < zs.length → W.cell? (x.add i) = some (.string (zs.getD i ByteArray.empty))) (hws : ∀ s ∈ zs, s.size ≤ maxLen) :
 NmArg W (.slice (some x) l c) ((zs.take l).map (·.data.toList)) := by
 have h := qiR hl hm hz hcell hws
 exact ⟨⟨h.1, _, _, _, rfl, hl, fun e => by cases e⟩, h.2⟩
theorem kn_Few (v : Value) (n : Nm) (r : Bool) (h : fewN n = r) (w0 w : World) (hA : NmArg w0 v n) (hA2 : NmAt w v n) :
 Calls Tryz.prog 13 #[v] w fun e w' => e = .returned (.bool r) ∧ Below w.heap.size w w' := by
 subst h; refine (qfi v n w hA2.1 hA.2.1 hA.2.2).mono ?_
 rintro e w' ⟨rfl, rfl⟩; exact ⟨rfl, qL0⟩
theorem qjl (v : Value) (n : Nm) (r : Bool) (h : goodN n = r) (w0 w : World) (hA : NmArg w0 v n) (hA2 : NmAt w v n) :
 Calls Tryz.prog 27 #[v] w fun e w' => e = .returned (.bool r) ∧ Below w.heap.size w w' := by
 subst h; refine (qkp v n w hA2.1 hA.2.1 hA.2.2).mono ?_
 rintro e w' ⟨rfl, rfl⟩; exact ⟨rfl, qL0⟩
def fewD (d : Dat) : Bool := decide (d.names.length ≤ 8 ∧ d.nums.length ≤ 12 ∧ d.texts.length ≤ 40 ∧ d.raw.length ≤ 1100) && (decide (∀ n ∈ d.names, fewN n = true) && decide (∀ x ∈ d.texts, x.length ≤ 300))
def DatArg (W : World) (v : Value) (d : Dat) : Prop := DatAt W v d ∧ (-(2 ^ 63) ≤ d.ty ∧ d.ty < 2 ^ 63) ∧ (∀ n ∈ d.names, n.length ≤ maxLen ∧ ∀ x ∈ n, x.length ≤ maxLen) ∧ (∀ n ∈ d.nums, n < 2 ^ 32) ∧ (∀ x ∈ d.texts, x.length ≤ maxLen)
theorem qmT {W : World} {v : Value} {d : Dat} (h : DatArg W v d) (hf : fewD d = true) : DatOK d := by
 simp only [fewD, Bool.and_eq_true, decide_eq_true_eq] at hf
 obtain ⟨⟨f1, f2, f3, f4⟩, f5, f6⟩ := hf
 exact ⟨h.2.1, by omega, fun n hn => qbU (f5 n hn), by omega, h.2.2.2.1, ⟨by omega, fun x hx => by have := f6 x hx; omega⟩, by omega⟩
end Go.Proofs.YtckammgnmgkieaaGreat
namespace Go.Proofs.YtckammgnmgkieaaGreat.Stb
open Go.Sort
set_option linter.unusedSectionVars false
variable {α : Type} [Inhabited α] {cf : α → α → Int} {tg : α → Nat}
def lb (cf : α → α → Int) (x y : α) : Bool := decide (cf x y < 0)
structure InsR (cf : α → α → Int) (tg : α → Nat) (a j i : Nat) (d : Array α) : Prop where
 rest : ∀ p q, a ≤ p → p < q → q ≤ i → p ≠ j → q ≠ j → Lx cf tg d[p]! d[q]!
 right : ∀ q, j < q → q ≤ i → Lx cf tg d[j]! d[q]!
 most : ∀ q, a ≤ q → q ≤ i → q ≠ j → tg d[q]! < tg d[j]!
theorem InsR.stop (hO : COrd cf) {a j i : Nat} {d : Array α} (h : InsR cf tg a j i d) (haj : a ≤ j) (hji : j ≤ i) (hs : j ≤ a ∨ lb cf d[j]! d[j - 1]! = false) : Rise cf tg a (i + 1) d := by
 have hl : ∀ p, a ≤ p → p < j → Lx cf tg d[p]! d[j]! := fun p h1 h2 => by
  rcases hs with hs | hs
  ·omega
  ·have hx : Lx cf tg d[j - 1]! d[j]! := Lx.of_not hO (h.most _ (by omega) (by omega) (by omega)) (by simpa [lb] using hs)
   by_cases e : p = j - 1
   ·subst e; exact hx
   ·exact (h.rest p (j - 1) h1 (by omega) (by omega) (by omega) (by omega)).trans hO hx
 intro p q hap hpq hqi
 by_cases hq : q = j
 ·subst hq; exact hl p hap hpq
 ·by_cases hp : p = j
  ·subst hp; exact h.right q hpq (by omega)
  ·exact h.rest p q hap hpq (by omega) hp hq
theorem InsR.step {a j i : Nat} {d : Array α} (h : InsR cf tg a (j + 1) i d) (hl : lb cf d[j + 1]! d[j]! = true) (haj : a ≤ j) (hji : j + 1 ≤ i) (hsz : j + 1 < d.size) : InsR cf tg a j i (swp d (j + 1) j) := by
 have g := swp_get d hsz (show j < d.size by omega)
 have hl' : cf d[j + 1]! d[j]! < 0 := by simpa [lb] using hl
 refine ⟨fun p q hap hpq hqi hp hq => ?_, fun q hjq hqi => ?_, fun q haq hqi hq => ?_⟩
 ·rw [g, g]
  repeat' split
  all_goals first
   | (exfalso; omega)
   | exact h.rest _ _ (by omega) (by omega) (by omega) (by omega) (by omega)
 ·rw [g, g, if_pos rfl]
  repeat' split
  all_goals first
   | (exfalso; omega)
   | exact Or.inl hl'
   | exact h.right _ (by omega) (by omega)
 ·rw [g, g, if_pos rfl]
  repeat' split
  all_goals first
   | (exfalso; omega)
   | exact h.most _ (by omega) (by omega) (by omega)
theorem qd3 (hO : COrd cf) (a i : Nat) : ∀ (j : Nat) (d : Array α), a ≤ j → j ≤ i → i + 1 ≤ d.size → InsR cf tg a j i d →
 PermIn a (i + 1) d (insInner (lb cf) a j d) ∧ Rise cf tg a (i + 1) (insInner (lb cf) a j d)
 | 0, d, h1, h2, _, hI => by
  unfold insInner
  exact ⟨permIn_refl d a _, hI.stop hO h1 h2 (Or.inl (Nat.zero_le _))⟩
 | j + 1, d, haj, hji, hb, hI => by
  unfold insInner
  split
  ·rename_i hc
   simp only [Bool.and_eq_true, decide_eq_true_eq] at hc
   have ih := qd3 hO a i j (swp d (j + 1) j) (by omega) (by omega) (by rw [swp_size]; exact hb) (hI.step hc.2 (by omega) hji (by omega))
   exact ⟨permIn_trans _ _ _ a (i + 1) (swp_permIn d a (i + 1) (j + 1) j haj (by omega) (by omega) (by omega) hb) ih.1, ih.2⟩
  ·rename_i hc
   simp only [Bool.and_eq_true, decide_eq_true_eq, not_and, Bool.not_eq_true] at hc
   refine ⟨permIn_refl d a _, hI.stop hO haj hji ?_⟩
   by_cases h : j + 1 > a
   ·exact Or.inr (by simpa using hc h)
   ·exact Or.inl (by omega)
theorem qd0 (hO : COrd cf) (a b : Nat) : ∀ (n i : Nat) (d : Array α), b - i = n → a < i → i ≤ b → b ≤ d.size → Rise cf tg a i d → (∀ p q, a ≤ p → p < q → i ≤ q → q < b → tg d[p]! < tg d[q]!) →
 PermIn a b d (insOuter (lb cf) a b i d) ∧ Rise cf tg a b (insOuter (lb cf) a b i d)
 | 0, i, d, hn, _, hib, _, hs, _ => by
  obtain rfl : i = b := by omega
  rw [insOuter, if_neg (by omega)]
  exact ⟨permIn_refl d a i, hs⟩
 | n + 1, i, d, hn, hai, hib, hb, hs, ht => by
  have hlt : i < b := by omega
  rw [insOuter, if_pos hlt]
  have h1 := qd3 hO a i i d (by omega) (qN0) (by omega) ⟨fun p q hap hpq hqi _ hq => hs p q hap hpq (by omega), fun q h1 h2 => by omega, fun q h1 h2 h3 => ht q i h1 (by omega) (qN0) hlt⟩
  have hp := h1.1
  have ht2 : ∀ p q, a ≤ p → p < q → i + 1 ≤ q → q < b → tg (insInner (lb cf) a i d)[p]! < tg (insInner (lb cf) a i d)[q]! := fun p q g1 g2 g3 g4 => by
   rw [hp.2.1 q (Or.inr g3)]
   by_cases hpi : p < i + 1
   ·exact permIn_all d _ a (i + 1) (fun x => tg x < tg d[q]!) (by omega) hp (fun k k1 k2 => ht k q k1 (by omega) (by omega) g4) p g1 hpi
   ·rw [hp.2.1 p (Or.inr (by omega))]; exact ht p q g1 g2 (by omega) g4
  have h2 := qd0 hO a b n (i + 1) (insInner (lb cf) a i d) (by omega) (by omega) (by omega) (by rw [hp.1]; exact hb) h1.2 ht2
  exact ⟨permIn_trans _ _ _ a b (permIn_mono _ _ a (i + 1) a b (qN0) (by omega) hb hp) h2.1, h2.2⟩
theorem insertion_rise (hO : COrd cf) (d : Array α) (a b : Nat) (hab : a ≤ b) (hb : b ≤ d.size) (ht : ∀ p q, a ≤ p → p < q → q < b → tg d[p]! < tg d[q]!) :
 PermIn a b d (insertionSort (lb cf) d a b) ∧ Rise cf tg a b (insertionSort (lb cf) d a b) := by
 unfold insertionSort
 by_cases h : a = b
 ·subst h
  rw [insOuter, if_neg (by omega)]
  exact ⟨permIn_refl d a a, fun i j h1 h2 h3 => by omega⟩
 ·exact qd0 hO a b (b - (a + 1)) (a + 1) d rfl (by omega) (by omega) hb (fun i j h1 h2 h3 => by omega) (fun p q h1 h2 h3 h4 => ht p q h1 h2 h4)
structure Blk (cf : α → α → Int) (tg : α → Nat) (s : Nat) (d : Array α) : Prop where
 own : ∀ q i, q * s ≤ i → i < q * s + s → i < d.size → q * s ≤ tg d[i]! ∧ tg d[i]! < q * s + s
 up : ∀ q i j, q * s ≤ i → i < j → j < q * s + s → j < d.size → Lx cf tg d[i]! d[j]!
structure Blk0 (cf : α → α → Int) (tg : α → Nat) (s a : Nat) (d : Array α) : Prop where
 own : ∀ q i, q * s ≤ i → i < q * s + s → i < a → q * s ≤ tg d[i]! ∧ tg d[i]! < q * s + s
 up : ∀ q i j, q * s ≤ i → i < j → j < q * s + s → j < a → Lx cf tg d[i]! d[j]!
 rest : ∀ i, a ≤ i → i < d.size → tg d[i]! = i
theorem Blk0.start {s : Nat} {d : Array α} (h : ∀ i, i < d.size → tg d[i]! = i) : Blk0 cf tg s 0 d := ⟨fun q i h1 h2 h3 => by omega, fun q i j h1 h2 h3 h4 => by omega, fun i _ h1 => h i h1⟩
theorem blk_lt {q r s : Nat} (h : q < r) : q * s + s ≤ r * s := by
 have := Nat.mul_le_mul_right s (show q + 1 ≤ r from h); rwa [Nat.succ_mul] at this
theorem Blk0.tags {s a e : Nat} {d : Array α} (h : Blk0 cf tg s a d) (he : e ≤ d.size) : ∀ p q, a ≤ p → p < q → q < e → tg d[p]! < tg d[q]! := fun p q h1 h2 h3 => by
 rw [h.rest p h1 (by omega), h.rest q (by omega) (by omega)]; exact h2
theorem Blk0.next {s r e : Nat} {d d' : Array α} (h : Blk0 cf tg s (r * s) d) (he : e ≤ d.size) (hae : r * s ≤ e) (hes : e ≤ r * s + s) (hp : PermIn (r * s) e d d') (hr : Rise cf tg (r * s) e d') : Blk0 cf tg s e d' := by
 have lo : ∀ i, i < r * s → d'[i]! = d[i]! := fun i hi => hp.2.1 i (Or.inl hi)
 have mid : ∀ i, r * s ≤ i → i < e → r * s ≤ tg d'[i]! ∧ tg d'[i]! < e := permIn_all d d' (r * s) e (fun x => r * s ≤ tg x ∧ tg x < e) he hp (fun i h1 h2 => by rw [h.rest i h1 (by omega)]; exact ⟨h1, h2⟩)
 refine ⟨fun q i h1 h2 h3 => ?_, fun q i j h1 h2 h3 h4 => ?_, fun i h1 h2 => ?_⟩
 ·by_cases hi : i < r * s
  ·rw [lo i hi]; exact h.own q i h1 h2 hi
  ·have hqr : q = r := by
    rcases Nat.lt_trichotomy q r with hh | hh | hh
    ·have := blk_lt (s := s) hh; omega
    ·exact hh
    ·have := blk_lt (s := s) hh; omega
   subst hqr
   have := mid i (by omega) h3
   omega
 ·by_cases hj : j < r * s
  ·rw [lo i (by omega), lo j hj]; exact h.up q i j h1 h2 h3 hj
  ·have hqr : q = r := by
    rcases Nat.lt_trichotomy q r with hh | hh | hh
    ·have := blk_lt (s := s) hh; omega
    ·exact hh
    ·have := blk_lt (s := s) hh; omega
   subst hqr
   exact hr i j h1 h2 h4
 ·rw [hp.2.1 i (Or.inr h1)]
  exact h.rest i (by omega) (by rw [← hp.1]; exact h2)
theorem Blk0.whole {s : Nat} {d : Array α} (h : Blk0 cf tg s d.size d) : Blk cf tg s d := ⟨h.own, h.up⟩
theorem Blk.rise {s : Nat} {d : Array α} (h : Blk cf tg s d) (hs : d.size ≤ s) : Rise cf tg 0 d.size d := fun i j _ h2 h3 => h.up 0 i j (by omega) h2 (by omega) h3
structure Blk2 (cf : α → α → Int) (tg : α → Nat) (s a : Nat) (d : Array α) : Prop where
 own2 : ∀ q i, q * (2 * s) ≤ i → i < q * (2 * s) + 2 * s → i < d.size → q * (2 * s) ≤ tg d[i]! ∧ tg d[i]! < q * (2 * s) + 2 * s
 own : ∀ q i, a ≤ i → q * s ≤ i → i < q * s + s → i < d.size → q * s ≤ tg d[i]! ∧ tg d[i]! < q * s + s
 up2 : ∀ q i j, q * (2 * s) ≤ i → i < j → j < q * (2 * s) + 2 * s → j < a → Lx cf tg d[i]! d[j]!
 up : ∀ q i j, a ≤ i → q * s ≤ i → i < j → j < q * s + s → j < d.size → Lx cf tg d[i]! d[j]!
theorem twice (q s : Nat) : q * (2 * s) = 2 * q * s ∧ (2 * q + 1) * s = 2 * q * s + s := ⟨by rw [← Nat.mul_assoc, Nat.mul_comm q 2], by rw [Nat.succ_mul]⟩
theorem Blk2.start {s : Nat} {d : Array α} (h : Blk cf tg s d) : Blk2 cf tg s 0 d := by
 refine ⟨fun q i h1 h2 h3 => ?_, fun q i _ => h.own q i, fun q i j h1 h2 h3 h4 => by omega, fun q i j _ => h.up q i j⟩
 obtain ⟨e1, e2⟩ := twice q s
 by_cases hi : i < 2 * q * s + s
 ·have := h.own (2 * q) i (by omega) hi h3; omega
 ·have := h.own (2 * q + 1) i (by omega) (by omega) h3; omega
theorem Blk2.mrg {s r e : Nat} {d : Array α} (h : Blk2 cf tg s (r * (2 * s)) d) (hs : 0 < s) (he : e ≤ d.size) (h1 : r * (2 * s) + s < e) (h2 : e ≤ r * (2 * s) + 2 * s) : Mrg cf tg (r * (2 * s)) (r * (2 * s) + s) e d := by
 obtain ⟨e1, e2⟩ := twice r s
 refine ⟨by omega, h1, he, fun i j g1 g2 g3 => h.up (2 * r) i j g1 (by omega) g2 (by omega) (by omega), fun i j g1 g2 g3 => h.up (2 * r + 1) i j (by omega) (by omega) g2 (by omega) (by omega), fun i j g1 g2 g3 g4 => ?_⟩
 have a1 := h.own (2 * r) i g1 (by omega) (by omega) (by omega)
 have a2 := h.own (2 * r + 1) j (by omega) (by omega) (by omega) (by omega)
 omega
theorem Blk2.next {s r e : Nat} {d d' : Array α} (h : Blk2 cf tg s (r * (2 * s)) d) (he : e ≤ d.size) (h1 : r * (2 * s) ≤ e) (h2 : e ≤ r * (2 * s) + 2 * s) (h3 : e = r * (2 * s) + 2 * s ∨ e = d.size) (hp : PermIn (r * (2 * s)) e d d') (hr : Rise cf tg (r * (2 * s)) e d') : Blk2 cf tg s e d' := by
 obtain ⟨e1, e2⟩ := twice r s
 have lo : ∀ i, i < r * (2 * s) → d'[i]! = d[i]! := fun i hi => hp.2.1 i (Or.inl hi)
 have up : ∀ i, e ≤ i → d'[i]! = d[i]! := fun i hi => hp.2.1 i (Or.inr hi)
 have mid : ∀ i, r * (2 * s) ≤ i → i < e → r * (2 * s) ≤ tg d'[i]! ∧ tg d'[i]! < r * (2 * s) + 2 * s := permIn_all d d' _ e (fun x => r * (2 * s) ≤ tg x ∧ tg x < r * (2 * s) + 2 * s) he hp (fun i k1 k2 => h.own2 r i k1 (by omega) (by omega))
 have hsz := hp.1
 refine ⟨fun q i k1 k2 k3 => ?_, fun q i k0 k1 k2 k3 => ?_, fun q i j k1 k2 k3 k4 => ?_, fun q i j k0 k1 k2 k3 k4 => ?_⟩
 ·by_cases hi : i < r * (2 * s)
  ·rw [lo i hi]; exact h.own2 q i k1 k2 (by omega)
  ·by_cases hie : i < e
   ·have hqr : q = r := by
     rcases Nat.lt_trichotomy q r with hh | hh | hh
     ·have := blk_lt (s := 2 * s) hh; omega
     ·exact hh
     ·have := blk_lt (s := 2 * s) hh; omega
    subst hqr
    exact mid i (by omega) hie
   ·rw [up i (by omega)]; exact h.own2 q i k1 k2 (by omega)
 ·rw [up i k0]; exact h.own q i (by omega) k1 k2 (by omega)
 ·by_cases hj : j < r * (2 * s)
  ·rw [lo i (by omega), lo j hj]; exact h.up2 q i j k1 k2 k3 hj
  ·have hqr : q = r := by
    rcases Nat.lt_trichotomy q r with hh | hh | hh
    ·have := blk_lt (s := 2 * s) hh; omega
    ·exact hh
    ·have := blk_lt (s := 2 * s) hh; omega
   subst hqr
   exact hr i j k1 k2 k4
 ·rw [up i k0, up j (by omega)]; exact h.up q i j (by omega) k1 k2 k3 (by omega)
theorem Blk2.short {s r : Nat} {d : Array α} (h : Blk2 cf tg s (r * (2 * s)) d) (h1 : d.size ≤ r * (2 * s) + s) : Rise cf tg (r * (2 * s)) d.size d := by
 obtain ⟨e1, e2⟩ := twice r s
 exact fun i j g1 g2 g3 => h.up (2 * r) i j g1 (by omega) g2 (by omega) g3
theorem Blk2.whole {s a : Nat} {d : Array α} (h : Blk2 cf tg s a d) (ha : d.size ≤ a) : Blk cf tg (2 * s) d := ⟨h.own2, fun q i j h1 h2 h3 h4 => h.up2 q i j h1 h2 h3 (by omega)⟩
end Go.Proofs.YtckammgnmgkieaaGreat.Stb

namespace Go.Proofs.YtckammgnmgkieaaGreat
set_option maxRecDepth 20000
set_option linter.unusedSectionVars false
open Go.RowKit Go.Shelf Go.Sort Go.Lib
section
variable {α : Type} [Inhabited α]
structure SW (enc : α → List Value) (k : Nat) (w : World) (blk off : Nat) (d : Array α) (W : World) : Prop where
 row : HoldsK enc k W blk off d
 rest : w.grownBy W (some blk)
 lt : blk < w.heap.size
theorem SW.refl {enc : α → List Value} {k : Nat} {w : World} {blk off : Nat} {d : Array α} (h : HoldsK enc k w blk off d) (hlt : blk < w.heap.size) : SW enc k w blk off d w := ⟨h, qeC w _, hlt⟩
theorem SW.drew {enc : α → List Value} {k : Nat} {w W : World} {blk off : Nat} {d : Array α} (h : SW enc k w blk off d W) : SW enc k w blk off d W.drew := ⟨h.row, qbe h.rest (qnc W _), h.lt⟩
theorem qlD {W W' : World} (r : Option Nat) (hb : Below W.heap.size W W') : W.grownBy W' r := ⟨hb.os, hb.tape, hb.output, hb.size, fun k hk _ => hb.block k hk⟩
theorem SW.lt' {enc : α → List Value} {k : Nat} {w W : World} {blk off : Nat} {d : Array α} (h : SW enc k w blk off d W) : blk < W.heap.size := Nat.lt_of_lt_of_le h.lt h.rest.size
theorem SW.below {enc : α → List Value} {k : Nat} {w W W' : World} {blk off : Nat} {d : Array α} (h : SW enc k w blk off d W) (hb : Below W.heap.size W W') : SW enc k w blk off d W' := by
 refine ⟨fun j hj => ?_, qbe h.rest (qlD _ hb), h.lt⟩
 have h1 := h.row j hj
 exact ⟨(hb.cell (p := ⟨blk, off + j, none⟩) h.lt').trans h1.1, (hb.frozen (p := ⟨blk, off + j, none⟩) h.lt').trans h1.2⟩
theorem SW.trans {enc : α → List Value} {k : Nat} {w W W' : World} {blk off : Nat} {d d' : Array α} (h : SW enc k w blk off d W) (g : SW enc k W blk off d' W') : SW enc k w blk off d' W' := ⟨g.row, qbe h.rest g.rest, h.lt⟩
theorem qdf (blk : Nat) : ∀ (vs : List Value) (o : Nat) (w : World), w.grownBy (w.setCells blk o vs) (some blk)
 | [], _, w => qeC w _
 | v :: r, o, w => by
  rw [World.setCells]
  exact qbe (qfT w blk o v) (qdf blk r (o + 1) _)
theorem SW.swap {enc : α → List Value} {k : Nat} {w W : World} {blk off : Nat} {d : Array α} (hk : ∀ x, (enc x).length = k) (h : SW enc k w blk off d W) (i j : Nat) (hi : i < d.size) (hj : j < d.size) :
 SW enc k w blk off (swp d i j) ((W.setCells blk (off + i * k) (enc d[j]!)).setCells blk (off + j * k) (enc d[i]!)) := by
 refine ⟨?_, qbe (qbe h.rest (qdf _ _ _ _)) (qdf _ _ _ _), h.lt⟩
 have e : (W.setCells blk (off + i * k) (enc d[j]!)).setCells blk (off + j * k) (enc d[i]!) = putRowK enc k W blk off (swp d i j) := by
  conv => lhs; rw [← putRowK_self enc k W blk off d h.row]
  exact putRowK_swp enc k hk W blk off d i j hi hj
 rw [e]
 exact holdsK_putRowK enc k W blk off d _ h.row (by rw [size_swp])
theorem qfb {W : World} {blk off : Nat} {F : Array Value} (h : Holds id W blk off F) (s : Nat) (vs : List Value) (hs : s + vs.length ≤ F.size) : Holds id (W.setCells blk (off + s) vs) blk off (setMany F s vs) := by
 have e : W.setCells blk (off + s) vs = putRow id W blk off (setMany F s vs) := by
  conv => lhs; rw [← putRow_self id W blk off F h]
  exact setCells_putRow _ _ _ _ _ _ hs
 rw [e]
 exact holds_putRow id W blk off F _ h (by rw [size_setMany])
theorem SW.load {enc : α → List Value} {k : Nat} {w W : World} {blk off : Nat} {d : Array α} (P : Program) (hk : ∀ x, (enc x).length = k) (h : SW enc k w blk off d W) (i : Nat) (hi : i < d.size) :
 Sem.run P (loadCellsFrom ⟨blk, off + i * k, none⟩ 0 k #[]) W = .ok (enc d[i]!).toArray W := run_loadCellsFrom_list P _ _ _ k (hk _) (HoldsK.cells h.row hk hi)
theorem bnd_k {n x k : Nat} (hx : x < n) : x * k + k ≤ n * k := by
 have := Nat.mul_le_mul_right k (show x + 1 ≤ n from hx); rwa [Nat.add_mul, Nat.one_mul] at this
theorem SW.store1 {enc : α → List Value} {k : Nat} {w W : World} {blk off : Nat} {d : Array α} (P : Program) (hk : ∀ x, (enc x).length = k) (h1 : ∀ x, ∀ v ∈ enc x, v.oneCell' = true) (h : SW enc k w blk off d W) (i : Nat) (hi : i < d.size) (x : α) :
 Sem.run P (storeCells ⟨blk, off + i * k, none⟩ (enc x) 0) W = .ok () (W.setCells blk (off + i * k) (enc x)) := stores_of_holds P h.row (i * k) _ (by rw [hk, size_flatK]; exact bnd_k hi) (h1 _)
theorem SW.store2 {enc : α → List Value} {k : Nat} {w W : World} {blk off : Nat} {d : Array α} (P : Program) (hk : ∀ x, (enc x).length = k) (h1 : ∀ x, ∀ v ∈ enc x, v.oneCell' = true) (h : SW enc k w blk off d W) (i j : Nat) (hi : i < d.size) (hj : j < d.size) (x y : α) :
 Sem.run P (storeCells ⟨blk, off + j * k, none⟩ (enc y) 0) (W.setCells blk (off + i * k) (enc x)) = .ok () ((W.setCells blk (off + i * k) (enc x)).setCells blk (off + j * k) (enc y)) :=
 stores_of_holds P (qfb h.row (i * k) _ (by rw [hk, size_flatK]; exact bnd_k hi)) (j * k) _ (by rw [hk, size_setMany, size_flatK]; exact bnd_k hj) (h1 _)
end
end Go.Proofs.YtckammgnmgkieaaGreat
namespace Go.Proofs.YtckammgnmgkieaaGreat
set_option maxRecDepth 1000000
set_option maxHeartbeats 4000000
set_option linter.unusedSectionVars false
open Go.RowKit Go.Shelf Go.Sort Go.Lib
structure SLay (P : Program) (k : Nat) : Prop where
 mixed : P.follows .mixedOrders = true
 t0 : P.underlying 0 = some (.tuple #[])
 a0 : ∀ w, (isAgg 0).run P w = .ok false w
 z0 : ∀ w, (Go.sizeOf 0).run P w = .ok 1 w
 v0 : ∀ w, (zeroValue 0).run P w = .ok (.tuple #[]) w
 t3 : P.underlying 3 = some (.int .i64)
 a3 : ∀ w, (isAgg 3).run P w = .ok false w
 z3 : ∀ w, (Go.sizeOf 3).run P w = .ok 1 w
 v3 : ∀ w, (zeroValue 3).run P w = .ok (.int .i64 0) w
 t4 : P.underlying 4 = some (.bool)
 a4 : ∀ w, (isAgg 4).run P w = .ok false w
 z4 : ∀ w, (Go.sizeOf 4).run P w = .ok 1 w
 v4 : ∀ w, (zeroValue 4).run P w = .ok (.bool false) w
 t85 : P.underlying 180 = some (.int .u64)
 a85 : ∀ w, (isAgg 180).run P w = .ok false w
 z85 : ∀ w, (Go.sizeOf 180).run P w = .ok 1 w
 v85 : ∀ w, (zeroValue 180).run P w = .ok (.int .u64 0) w
 t43 : P.underlying 22 = some (.slice 103)
 a43 : ∀ w, (isAgg 22).run P w = .ok false w
 z43 : ∀ w, (Go.sizeOf 22).run P w = .ok 1 w
 v43 : ∀ w, (zeroValue 22).run P w = .ok (.slice none 0 0) w
 t69 : P.underlying 171 = some (.func #[103, 103] #[3] false)
 a69 : ∀ w, (isAgg 171).run P w = .ok false w
 z69 : ∀ w, (Go.sizeOf 171).run P w = .ok 1 w
 v69 : ∀ w, (zeroValue 171).run P w = .ok (.nilFunc) w
 aE : ∀ w, (isAgg 103).run P w = .ok true w
 zE : ∀ w, (Go.sizeOf 103).run P w = .ok k w
theorem qlc : SLay Tryz.prog 7 where
 mixed := by kernel_rfl
 t0 := Tryz.underlying0
 a0 := Tryz.isAgg0
 z0 := Tryz.sizeOf0
 v0 := Tryz.zeroValue0
 t3 := Tryz.underlying3
 a3 := Tryz.isAgg3
 z3 := Tryz.sizeOf3
 v3 := Tryz.zeroValue3
 t4 := Tryz.underlying4
 a4 := Tryz.isAgg4
 z4 := Tryz.sizeOf4
 v4 := Tryz.zeroValue4
 t85 := Tryz.underlying180
 a85 := Tryz.isAgg180
 z85 := Tryz.sizeOf180
 v85 := Tryz.zeroValue180
 t43 := Tryz.underlying22
 a43 := Tryz.isAgg22
 z43 := Tryz.sizeOf22
 v43 := Tryz.zeroValue22
 t69 := Tryz.underlying171
 a69 := Tryz.isAgg171
 z69 := Tryz.sizeOf171
 v69 := Tryz.zeroValue171
 aE := Tryz.isAgg103
 zE := Tryz.sizeOf103
variable {P : Program} {α : Type} [Inhabited α]
def qmF (enc : α → List Value) (k : Nat) (w : World) (blk off : Nat) (d : Array α) (a b n : Nat) (e : Ending) (w' : World) : Prop :=
 e = .returned (.tuple #[]) ∧ ∃ d' : Array α, d'.size = d.size ∧ (∀ x, x < d.size → d'[x]! = Stb.swr a b n (fun i => d[i]!) x) ∧ PermIn a (b + n) d d' ∧ SW enc k w blk off d' w'
structure SwrAt (enc : α → List Value) (k : Nat) (w : World) (blk off : Nat) (d : Array α) (a b i : Nat) (m : Nat) (dk : Array α) (W : World) : Prop where
 size : dk.size = d.size
 at_ : ∀ x, x < d.size → dk[x]! = Stb.swr a b i (fun i => d[i]!) x
 perm : PermIn a m d dk
 sw : SW enc k w blk off dk W
theorem qf4 {k : Nat} (L : SLay P k) (hF : P.funcs[217]? = some Tryz.f217) (enc : α → List Value) (hk : ∀ x, (enc x).length = k) (h1 : ∀ x, ∀ v ∈ enc x, v.oneCell' = true)
 (blk off cap a b n : Nat) (d : Array α) (fv : Value) (w : World) (hH : HoldsK enc k w blk off d) (hlt : blk < w.heap.size) (hab : a + n ≤ b) (hb : b + n ≤ d.size) (hsz : d.size < 4611686018427387904) :
 Calls P 217 #[.slice (some ⟨blk, off, none⟩) d.size cap, .int .i64 a, .int .i64 b, .int .i64 n, fv] w (qmF enc k w blk off d a b n) := by
 have mixed := L.mixed; have t0 := L.t0; have a0 := L.a0; have z0 := L.z0; have v0 := L.v0; have t3 := L.t3; have a3 := L.a3; have z3 := L.z3; have v3 := L.v3; have t4 := L.t4; have a4 := L.a4; have z4 := L.z4; have v4 := L.v4; have t85 := L.t85; have a85 := L.a85; have z85 := L.z85; have v85 := L.v85; have t43 := L.t43; have a43 := L.a43; have z43 := L.z43; have v43 := L.v43; have t69 := L.t69; have a69 := L.a69; have z69 := L.z69; have v69 := L.v69; have aE := L.aE; have zE := L.zE
 have u43 := run_underlying L.t43
 have HK := qH0 hk; have H1 := qH0 h1
 have HS0 : Hid (SwrAt enc k w blk off d a b 0 (b + n) d w) := qH0 ⟨rfl, fun x _ => (Stb.swr_zero a b _ x).symm, permIn_refl d a _, SW.refl hH hlt⟩
 clear hH hlt hk h1
 go_enter hF, Tryz.ntmps217
 go_wp2
 go_loopw [10] (fun vi wr => ∃ (i : Nat) (dk : Array α), vi = .int .i64 i ∧ i ≤ n ∧ Hid (SwrAt enc k w blk off d a b i (b + n) dk wr)) (fun vi _ => n - (intOf vi).toNat)
 case atStart => exact ⟨0, d, rfl, Nat.zero_le _, HS0⟩
 case round =>
  obtain ⟨i, dk, rfl, hi, HS⟩ := hrel
  by_cases hin : i < n
  ·have hinz : (i : Int) < (n : Int) := by omega
   obtain ⟨xa, hxa⟩ : ∃ x, dk[a + i]! = x := ⟨_, rfl⟩
   obtain ⟨xb, hxb⟩ : ∃ x, dk[b + i]! = x := ⟨_, rfl⟩
   have hsk := HS.out.size
   have hD := HS.out.sw.drew
   have la := hD.load P HK.out (a + i) (by omega)
   have lb := hD.load P HK.out (b + i) (by omega)
   have s1 := hD.store1 P HK.out H1.out (a + i) (by omega) xb
   have s2 := hD.store2 P HK.out H1.out (a + i) (b + i) (by omega) (by omega) xb xa
   rw [hxa] at la
   rw [hxb] at lb
   have hsa : (enc xa).length = k := HK.out _
   have hsb : (enc xb).length = k := HK.out _
   have HN : Hid (SwrAt enc k w blk off d a b (i + 1) (b + n) (swp dk (a + i) (b + i)) ((wr.drew.setCells blk (off + (a + i) * k) (enc xb)).setCells blk (off + (b + i) * k) (enc xa))) := by
    have h := HS.out
    refine qH0 ⟨by rw [size_swp]; exact hsk, Stb.swr_step (by omega) (by omega) hsk h.at_, permIn_trans _ _ _ a (b + n) h.perm (swp_permIn dk a (b + n) (a + i) (b + i) (by omega) (by omega) (by omega) (by omega) (by omega)), ?_⟩
    have := hD.swap HK.out (a + i) (b + i) (by omega) (by omega)
    rwa [hxa, hxb] at this
   obtain ⟨ca, hca⟩ : ∃ c, c = enc xa := ⟨_, rfl⟩
   obtain ⟨cb, hcb⟩ : ∃ c, c = enc xb := ⟨_, rfl⟩
   rw [← hca] at la hsa
   rw [← hcb] at lb hsb s1
   rw [← hca, ← hcb] at s2 HN
   have ja : ((a : Int) + (i : Int)) < (d.size : Int) := by omega
   have jb : ((b : Int) + (i : Int)) < (d.size : Int) := by omega
   have pa : (0 : Int) ≤ (a : Int) + (i : Int) := by omega
   have pb : (0 : Int) ≤ (b : Int) + (i : Int) := by omega
   have ea : ((a : Int) + (i : Int)).toNat = a + i := by omega
   have eb : ((b : Int) + (i : Int)).toNat = b + i := by omega
   clear hca hcb hD hsk hxa hxb
   go_wp2_with fail
   go_big_region_o
   all_goals go_wp2
   go_roundw
   case measure => simp [intOf]; omega
   case rel => exact ⟨i + 1, _, by go_num, by omega, HN⟩
  ·obtain rfl : i = n := by omega
   go_wp2
   go_end0
   have h := HS.out
   exact ⟨rfl, dk, h.size, h.at_, h.perm, h.sw⟩
end Go.Proofs.YtckammgnmgkieaaGreat
namespace Go.Proofs.YtckammgnmgkieaaGreat
set_option maxRecDepth 1000000
set_option maxHeartbeats 4000000
set_option linter.unusedSectionVars false
open Go.RowKit Go.Shelf Go.Sort Go.Lib
variable {P : Program} {α : Type} [Inhabited α]
def qm5 (enc : α → List Value) (k : Nat) (w : World) (blk off : Nat) (d : Array α) (a m b : Nat) (e : Ending) (w' : World) : Prop :=
 e = .returned (.tuple #[]) ∧ ∃ d' : Array α, d'.size = d.size ∧ (∀ x, x < d.size → d'[x]! = Stb.rot a m b (fun i => d[i]!) x) ∧ PermIn a b d d' ∧ SW enc k w blk off d' w'
structure RotAt (enc : α → List Value) (k : Nat) (w : World) (blk off : Nat) (d : Array α) (a m b i j : Nat) (dk : Array α) (W : World) : Prop where
 size : dk.size = d.size
 at_ : ∀ x, x < d.size → Stb.rot (m - i) m (m + j) (fun i => dk[i]!) x = Stb.rot a m b (fun i => d[i]!) x
 perm : PermIn a b d dk
 sw : SW enc k w blk off dk W
theorem RotAt.step {enc : α → List Value} {k : Nat} {w : World} {blk off : Nat} {d : Array α} {a m b i j : Nat} {dk : Array α} {W W' : World} (h : RotAt enc k w blk off d a m b i j dk W) {p q n i' j' : Nat} {d' : Array α}
 (hs : d'.size = dk.size) (hd : ∀ x, x < dk.size → d'[x]! = Stb.swr p q n (fun i => dk[i]!) x) (hp : PermIn p (q + n) dk d') (hw : SW enc k W blk off d' W') (hap : a ≤ p) (hqb : q + n ≤ b) (hb : b ≤ d.size) (hj : j' ≤ b - m) (him : i' ≤ m)
 (hr : ∀ x, Stb.rot (m - i') m (m + j') (Stb.swr p q n (fun i => dk[i]!)) x = Stb.rot (m - i) m (m + j) (fun i => dk[i]!) x) (hmb : m ≤ b) : RotAt enc k w blk off d a m b i' j' d' W' := by
 have hsz := h.size
 refine ⟨hs.trans hsz, fun x hx => ?_, permIn_trans _ _ _ a b h.perm (permIn_mono _ _ p (q + n) a b hap hqb (by omega) hp), h.sw.trans hw⟩
 rw [Stb.rot_congr (n := d.size) (f := fun i => d'[i]!) (g := Stb.swr p q n (fun i => dk[i]!)) (by omega) (by omega) (by omega) (fun y hy => hd y (by omega)) x hx, hr, h.at_ x hx]
theorem qiC {k : Nat} (L : SLay P k) (hF : P.funcs[216]? = some Tryz.f216) (hFs : P.funcs[217]? = some Tryz.f217)
 (e100 : ∀ args w, (callFunc 217 args).run P w = .ok (.enter 217 args) w) (enc : α → List Value) (hk : ∀ x, (enc x).length = k) (h1 : ∀ x, ∀ v ∈ enc x, v.oneCell' = true)
 (blk off cap a m b : Nat) (d : Array α) (fv : Value) (w : World) (hH : HoldsK enc k w blk off d) (hlt : blk < w.heap.size) (ham : a < m) (hmb : m < b) (hb : b ≤ d.size) (hsz : d.size < 4611686018427387904) :
 Calls P 216 #[.slice (some ⟨blk, off, none⟩) d.size cap, .int .i64 a, .int .i64 m, .int .i64 b, fv] w (qm5 enc k w blk off d a m b) := by
 have mixed := L.mixed; have t0 := L.t0; have a0 := L.a0; have z0 := L.z0; have v0 := L.v0; have t3 := L.t3; have a3 := L.a3; have z3 := L.z3; have v3 := L.v3; have t4 := L.t4; have a4 := L.a4; have z4 := L.z4; have v4 := L.v4; have t85 := L.t85; have a85 := L.a85; have z85 := L.z85; have v85 := L.v85; have t43 := L.t43; have a43 := L.a43; have z43 := L.z43; have v43 := L.v43; have t69 := L.t69; have a69 := L.a69; have z69 := L.z69; have v69 := L.v69; have aE := L.aE; have zE := L.zE
 have u43 := run_underlying L.t43
 have HC := qH0 (fun (W : World) (dk : Array α) (p q n : Nat) (hs : dk.size = d.size) (hW : SW enc k w blk off dk W) (h1' : p + n ≤ q) (h2 : q + n ≤ d.size) => hs ▸ qf4 L hFs enc hk h1 blk off cap p q n dk fv W hW.row hW.lt' h1' (by omega) (by omega))
 have HS0 : Hid (RotAt enc k w blk off d a m b (m - a) (b - m) d w) := qH0 ⟨rfl, fun x _ => by rw [show m - (m - a) = a by omega, show m + (b - m) = b by omega], permIn_refl d a _, SW.refl hH hlt⟩
 clear hH hlt hk h1
 have c1 : (m : Int) - (a : Int) = ((m - a : Nat) : Int) := by omega
 have c2 : (b : Int) - (m : Int) = ((b - m : Nat) : Int) := by omega
 have C1 := qH0 c1; have C2 := qH0 c2
 clear c1 c2
 go_enter hF, Tryz.ntmps216
 go_wp2
 go_loopw [10, 11] (fun vi vj wr => ∃ (i j : Nat) (dk : Array α), vi = .int .i64 i ∧ vj = .int .i64 j ∧ 0 < i ∧ 0 < j ∧ i ≤ m - a ∧ j ≤ b - m ∧ Hid (RotAt enc k w blk off d a m b i j dk wr)) (fun vi vj _ => (intOf vi).toNat + (intOf vj).toNat)
 case atStart => exact ⟨m - a, b - m, d, by rw [C1.out], by rw [C2.out], by omega, by omega, qN0, qN0, HS0⟩
 case round =>
  obtain ⟨i, j, dk, rfl, rfl, hi0, hj0, hi, hj, HS⟩ := hrel
  have hsk := HS.out.size
  have SK := qH0 hsk
  clear hsk
  rcases Nat.lt_trichotomy i j with hij | hij | hij
  ·have hne : ¬ (i : Int) = (j : Int) := by omega
   have hgt : ¬ (j : Int) < (i : Int) := by omega
   have hc := HC.out wr dk (m - i) (m + j - i) i SK.out HS.out.sw (by omega) (by omega)
   have e1 : ((m - i : Nat) : Int) = (m : Int) - (i : Int) := by omega
   have e2 : ((m + j - i : Nat) : Int) = (m : Int) + (j : Int) - (i : Int) := by omega
   rw [e1, e2] at hc
   clear e1 e2
   go_wp2_with (go_at_fn 217; refine hc.mono ?_; rintro e w' ⟨rfl, d', g1, g2, g3, g4⟩)
   have HN : Hid (RotAt enc k w blk off d a m b i (j - i) d' w') := qH0 (HS.out.step g1 g2 g3 g4 (by omega) (by omega) hb (by omega) (by omega) (fun x => Stb.rot_lt _ (by omega) hij x) (by omega))
   clear g1 g2 g3 g4 hc
   go_roundw
   case measure => simp [intOf]; omega
   case rel => exact ⟨i, j - i, d', rfl, by (congr 1; omega), hi0, by omega, hi, by omega, HN⟩
  ·subst hij
   have hc := HC.out wr dk (m - i) m i SK.out HS.out.sw (by omega) (by omega)
   have e1 : ((m - i : Nat) : Int) = (m : Int) - (i : Int) := by omega
   rw [e1] at hc
   clear e1
   go_wp2_with (go_at_fn 217; refine hc.mono ?_; rintro e w' ⟨rfl, d', g1, g2, g3, g4⟩)
   go_end0
   have h := HS.out
   have hs := SK.out
   refine ⟨rfl, d', g1.trans hs, fun x hx => ?_, permIn_trans _ _ _ a b h.perm (permIn_mono _ _ (m - i) (m + i) a b (by omega) (by omega) (by omega) g3), h.sw.trans g4⟩
   rw [g2 x (by omega), Stb.rot_eq _ (by omega), h.at_ x hx]
  ·have hne : ¬ (i : Int) = (j : Int) := by omega
   have hgt : (j : Int) < (i : Int) := by omega
   have hc := HC.out wr dk (m - i) m j SK.out HS.out.sw (by omega) (by omega)
   have e1 : ((m - i : Nat) : Int) = (m : Int) - (i : Int) := by omega
   rw [e1] at hc
   clear e1
   go_wp2_with (go_at_fn 217; refine hc.mono ?_; rintro e w' ⟨rfl, d', g1, g2, g3, g4⟩)
   have HN : Hid (RotAt enc k w blk off d a m b (i - j) j d' w') := qH0 (HS.out.step g1 g2 g3 g4 (by omega) (by omega) hb (by omega) (by omega) (fun x => Stb.rot_gt _ (by omega) hij x) (by omega))
   clear g1 g2 g3 g4 hc
   go_roundw
   case measure => simp [intOf]; omega
   case rel => exact ⟨i - j, j, d', by (congr 1; omega), rfl, by omega, hj0, by omega, hj, HN⟩
end Go.Proofs.YtckammgnmgkieaaGreat
namespace Go.Proofs.YtckammgnmgkieaaGreat
set_option maxRecDepth 1000000
set_option maxHeartbeats 4000000
set_option linter.unusedSectionVars false
open Go.RowKit Go.Shelf Go.Sort Go.Lib
variable {P : Program} {α : Type} [Inhabited α]
structure CmpB (P : Program) (g : Nat) (cb : Array Value) (enc : α → List Value) (cf : α → α → Int) (w : World) (blk : Nat) : Prop where
 eg : ∀ args w, (callFunc g args).run P w = .ok (.enter g args) w
 call : ∀ W, w.grownBy W (some blk) → ∀ x y : α, Calls P g (#[.agg (enc x).toArray, .agg (enc y).toArray] ++ cb) W fun e w' => e = .returned (.int .i64 (cf x y)) ∧ Below W.heap.size W w'
theorem CmpB.cls {g : Nat} {cb : Array Value} {enc : α → List Value} {k : Nat} {cf : α → α → Int} {w : World} {blk off : Nat} (h : CmpB P g cb enc cf w blk) (dk : Array α) (p : WIn (fun W => SW enc k w blk off dk W)) (x y : α) :
 Calls P g (#[.agg (enc x).toArray, .agg (enc y).toArray] ++ cb) p.w fun e w'' => e = .returned (.int .i64 (cf x y)) ∧ ∃ q : WIn (fun W => SW enc k w blk off dk W), w'' = q.w :=
 Calls.cls ((h.call p.w p.ok.rest x y).mono fun _ _ ⟨he, hb⟩ => ⟨he, p.ok.below hb⟩)
theorem CmpB.later {g : Nat} {cb : Array Value} {enc : α → List Value} {cf : α → α → Int} {w W : World} {blk : Nat} (h : CmpB P g cb enc cf w blk) (hg : w.grownBy W (some blk)) : CmpB P g cb enc cf W blk :=
 ⟨h.eg, fun W' hW => h.call W' (qbe hg hW)⟩
def qjm (enc : α → List Value) (k : Nat) (cf : α → α → Int) (w : World) (blk off : Nat) (d : Array α) (a b : Nat) (e : Ending) (w' : World) : Prop :=
 e = .returned (.tuple #[]) ∧ SW enc k w blk off (insertionSort (Stb.lb cf) d a b) w'
theorem qgg {k : Nat} (L : SLay P k) (hF : P.funcs[208]? = some Tryz.f208) (enc : α → List Value) (hk : ∀ x, (enc x).length = k) (h1 : ∀ x, ∀ v ∈ enc x, v.oneCell' = true) (cf : α → α → Int) (g : Nat) (cb : Array Value)
 (blk off cap a b : Nat) (d : Array α) (w : World) (hcmp : CmpB P g cb enc cf w blk) (hH : HoldsK enc k w blk off d) (hblk : blk < w.heap.size) (hab : a ≤ b) (hb : b ≤ d.size) (hsz : d.size < 4611686018427387904) :
 Calls P 208 #[.slice (some ⟨blk, off, none⟩) d.size cap, .int .i64 a, .int .i64 b, .func (.func g) #[] cb] w (qjm enc k cf w blk off d a b) := by
 have mixed := L.mixed; have t0 := L.t0; have a0 := L.a0; have z0 := L.z0; have v0 := L.v0; have t3 := L.t3; have a3 := L.a3; have z3 := L.z3; have v3 := L.v3; have t4 := L.t4; have a4 := L.a4; have z4 := L.z4; have v4 := L.v4; have t85 := L.t85; have a85 := L.a85; have z85 := L.z85; have v85 := L.v85; have t43 := L.t43; have a43 := L.a43; have z43 := L.z43; have v43 := L.v43; have t69 := L.t69; have a69 := L.a69; have z69 := L.z69; have v69 := L.v69; have aE := L.aE; have zE := L.zE
 have u43 := run_underlying L.t43
 have HC := qH0 hcmp
 have eg := hcmp.eg
 have HK := qH0 hk; have H1 := qH0 h1
 have HST : Hid (SW enc k w blk off d w) := qH0 (SW.refl hH hblk)
 clear hcmp hH hk h1 hblk
 go_enter hF, Tryz.ntmps208
 go_wp2
 go_loopg [8] (b - a) (fun g1 vi wr => ∃ (i : Nat) (dk : Array α), vi = .int .i64 i ∧ a < i ∧ i ≤ b + 1 ∧ b + 1 - i ≤ g1 + 1 ∧ dk.size = d.size ∧ Hid (SW enc k w blk off dk wr) ∧ Hid (insOuter (Stb.lb cf) a b i dk = insOuter (Stb.lb cf) a b (a + 1) d))
 case atStart => exact ⟨a + 1, d, by go_num, by omega, by omega, by omega, rfl, HST, qH0 rfl⟩
 case round =>
  obtain ⟨i, dk, rfl, hai, hib, hg1, hsk, HW, HO⟩ := hrel
  by_cases hlt : i < b
  ·have hltz : (i : Int) < (b : Int) := by omega
   go_wp2
   go_loopg [9] i (fun g2 vj wr2 => ∃ (j : Nat) (dj : Array α), vj = .int .i64 j ∧ a ≤ j ∧ j ≤ i ∧ j ≤ g2 ∧ dj.size = d.size ∧ Hid (SW enc k w blk off dj wr2) ∧ Hid (insInner (Stb.lb cf) a j dj = insInner (Stb.lb cf) a i dk))
   case atStart => exact ⟨i, dk, rfl, by omega, qN0, qN0, hsk, HW, qH0 rfl⟩
   case round =>
    obtain ⟨j, dj, rfl, haj, hji, hg2, hsj, HWj, HI⟩ := hrel
    have OUT : Hid ((j ≤ a ∨ Stb.lb cf dj[j]! dj[j - 1]! = false) → insOuter (Stb.lb cf) a b (i + 1) dj = insOuter (Stb.lb cf) a b (a + 1) d) := qH0 fun hs => by
     rw [← HO.out, insOuter_go _ _ _ _ _ hlt, ← HI.out, insInner_stop _ _ _ _ hs]
    by_cases hja : a < j
    ·have hjaz : (a : Int) < (j : Int) := by omega
     obtain ⟨jp, rfl⟩ : ∃ jp, j = jp + 1 := ⟨j - 1, by omega⟩
     obtain ⟨xj, hxj⟩ : ∃ x, dj[jp + 1]! = x := ⟨_, rfl⟩
     obtain ⟨xp, hxp⟩ : ∃ x, dj[jp]! = x := ⟨_, rfl⟩
     have hwp : IntKind.i64.wrap (jp : Int) = (jp : Int) := by rw [IntKind.wrap_i64]; omega
     have jz : (jp : Int) + 1 < (d.size : Int) := by omega
     have jz1 : (jp : Int) < (d.size : Int) := by omega
     have hjaz' : (a : Int) < (jp : Int) + 1 := by omega
     have p0 : (0 : Int) ≤ (jp : Int) + 1 := by omega
     have e0 : ((jp : Int) + 1).toNat = jp + 1 := by omega
     have lj : ∀ p : WIn (fun W => SW enc k w blk off dj W), Sem.run P (loadCellsFrom ⟨blk, off + (jp + 1) * k, none⟩ 0 k #[]) p.w = .ok (enc xj).toArray p.w := fun p => by
      rw [← hxj]; exact p.ok.load P HK.out (jp + 1) (by omega)
     have lp : ∀ p : WIn (fun W => SW enc k w blk off dj W), Sem.run P (loadCellsFrom ⟨blk, off + jp * k, none⟩ 0 k #[]) p.w = .ok (enc xp).toArray p.w := fun p => by
      rw [← hxp]; exact p.ok.load P HK.out jp (by omega)
     have hne : Nonempty (WIn (fun W => SW enc k w blk off dj W)) := ⟨⟨_, HWj.out.drew⟩⟩
     have hcg := fun p : WIn (fun W => SW enc k w blk off dj W) => HC.out.cls dj p xj xp
     by_cases hlv : cf xj xp < 0
     ·go_wp2_with fail
      refine qaf (fun W => SW enc k w blk off dj W) mixed (by kernel_rfl) HWj.out.drew ?_
      repeat (quiet_step (first | (go_at_fn g; exact hcg _)))
      refine wpQuiet_nil ?_
      rintro _ ⟨p, rfl⟩
      go_wp2_with fail
      have hD := p.ok.drew
      have lj2 := hD.load P HK.out (jp + 1) (by omega)
      have lp2 := hD.load P HK.out jp (by omega)
      have s1 := hD.store1 P HK.out H1.out (jp + 1) (by omega) xp
      have s2 := hD.store2 P HK.out H1.out (jp + 1) jp (by omega) (by omega) xp xj
      rw [hxj] at lj2
      rw [hxp] at lp2
      have hsJ : (enc xj).length = k := HK.out _
      have hsP : (enc xp).length = k := HK.out _
      have HN : Hid (SW enc k w blk off (swp dj (jp + 1) jp) ((p.w.drew.setCells blk (off + (jp + 1) * k) (enc xp)).setCells blk (off + jp * k) (enc xj))) := by
       have := hD.swap HK.out (jp + 1) jp (by omega) (by omega)
       rw [hxj, hxp] at this
       exact qH0 this
      have HNI : Hid (insInner (Stb.lb cf) a jp (swp dj (jp + 1) jp) = insInner (Stb.lb cf) a i dk) := by
       have := insInner_go (Stb.lb cf) a (jp + 1) dj hja (by simp only [Nat.add_sub_cancel]; rw [hxj, hxp]; exact decide_eq_true hlv)
       simp only [Nat.add_sub_cancel] at this
       exact qH0 (by rw [← HI.out, this])
      obtain ⟨cJ, hcJ⟩ : ∃ c, c = enc xj := ⟨_, rfl⟩
      obtain ⟨cP, hcP⟩ : ∃ c, c = enc xp := ⟨_, rfl⟩
      rw [← hcP] at s1 lp2 hsP
      rw [← hcJ] at lj2 hsJ
      rw [← hcJ, ← hcP] at s2 HN
      clear hcJ hcP lj lp hcg hD hxj hxp
      generalize p.w = wq2 at *
      go_big_region_o
      all_goals go_wp2
      go_roundg jp
      case measure => omega
      case rel => exact ⟨jp, swp dj (jp + 1) jp, by first | rfl | go_num | (congr 1; omega), by omega, by omega, qN0, by rw [size_swp]; exact hsj, HN, HNI⟩
     ·-- not less: out of the inner loop
      go_wp2_with fail
      refine qaf (fun W => SW enc k w blk off dj W) mixed (by kernel_rfl) HWj.out.drew ?_
      repeat (quiet_step (first | (go_at_fn g; exact hcg _)))
      refine wpQuiet_nil ?_
      rintro _ ⟨p, rfl⟩
      go_wp2
      go_roundg (b - (i + 1))
      case measure => omega
      case rel => exact ⟨i + 1, dj, by go_num, by omega, by omega, by omega, hsj, qH0 p.ok, qH0 (OUT.out (Or.inr (by simp only [Nat.add_sub_cancel]; rw [hxj, hxp]; exact decide_eq_false (by omega))))⟩
    ·-- j = a: out of the inner loop (the guard is false: 'cmp' is not called)
     have hjaz : decide ((j : Int) > (a : Int)) = false := decide_eq_false (by omega)
     have hjaz' : ¬ (a : Int) < (j : Int) := by omega
     go_wp2_with fail
     go_big_region_o
     all_goals go_wp2
     go_roundg (b - (i + 1))
     case measure => omega
     case rel => exact ⟨i + 1, dj, by go_num, by omega, by omega, by omega, hsj, qH0 HWj.out.drew, qH0 (OUT.out (Or.inl (by omega)))⟩
  ·have hltz : ¬ (i : Int) < (b : Int) := by omega
   go_wp2
   go_end0
   refine ⟨rfl, ?_⟩
   have h := HW.out
   unfold Sort.insertionSort
   rw [← HO.out, insOuter_stop _ _ _ _ _ hlt]
   exact h
end Go.Proofs.YtckammgnmgkieaaGreat
