import Derived.Sort.LotA
import Derived.Maps.AppendAt
import Derived.Maps.OwnIn
import Derived.StillTail
import Derived.StillTailTactics
import Derived.Deep.RegionHeld3
import Derived.Deep.RegionHeldLaw
import Derived.Deep.AppendLies
import Derived.Deep.DrawnRows
import Derived.Deep.QuietTactic
import Derived.BigQuiet
import Derived.Sort.QuietTacIn
import Derived.Test.YtnpnfajgphpabaaGreatMQ42
namespace Go.Proofs.YtnpnfajgphpabaaGreat.Stb
open Go.Sort
set_option linter.unusedSectionVars false
variable {α : Type} [Inhabited α]
structure COrd (cf : α → α → Int) : Prop where
 anti : ∀ x y, cf y x = - cf x y
 trans : ∀ x y z, cf x y ≤ 0 → cf y z ≤ 0 → cf x z ≤ 0
def Lx (cf : α → α → Int) (tg : α → Nat) (x y : α) : Prop := cf x y < 0 ∨ (cf x y = 0 ∧ tg x < tg y)
section
variable {cf : α → α → Int} {tg : α → Nat}
omit [Inhabited α] in
theorem Lx.trans (h : COrd cf) {x y z : α} (h1 : Lx cf tg x y) (h2 : Lx cf tg y z) : Lx cf tg x z := by
 have a1 := h.anti x y; have a2 := h.anti y z; have a3 := h.anti x z
 have t1 := h.trans x y z; have t2 := h.trans z x y; have t3 := h.trans y z x
 unfold Lx at *
 rcases h1 with h1 | ⟨h1, g1⟩ <;> rcases h2 with h2 | ⟨h2, g2⟩ <;> omega
omit [Inhabited α] in
theorem Lx.irrefl (h : COrd cf) (x : α) : ¬ Lx cf tg x x := by
 have := h.anti x x
 unfold Lx; omega
omit [Inhabited α] in
theorem Lx.of_not (h : COrd cf) {x y : α} (ht : tg x < tg y) (hn : ¬ cf y x < 0) : Lx cf tg x y := by
 have := h.anti x y
 unfold Lx; omega
def Rise (cf : α → α → Int) (tg : α → Nat) (a b : Nat) (d : Array α) : Prop := ∀ i j, a ≤ i → i < j → j < b → Lx cf tg d[i]! d[j]!
theorem Rise.congr {a b : Nat} {d d' : Array α} (h : Rise cf tg a b d) (he : ∀ x, a ≤ x → x < b → d'[x]! = d[x]!) : Rise cf tg a b d' := fun i j h1 h2 h3 => by
 rw [he i h1 (by omega), he j (by omega) h3]; exact h i j h1 h2 h3
theorem Rise.sub {a b a' b' : Nat} {d : Array α} (h : Rise cf tg a b d) (h1 : a ≤ a') (h2 : b' ≤ b) : Rise cf tg a' b' d := fun i j g1 g2 g3 => h i j (by omega) g2 (by omega)
theorem Rise.join {a m b : Nat} {d : Array α} (h1 : Rise cf tg a m d) (h2 : Rise cf tg m b d) (h3 : ∀ i j, a ≤ i → i < m → m ≤ j → j < b → Lx cf tg d[i]! d[j]!) : Rise cf tg a b d := fun i j g1 g2 g3 => by
 by_cases hj : j < m
 ·exact h1 i j g1 g2 hj
 ·by_cases hi : i < m
  ·exact h3 i j g1 hi (by omega) g3
  ·exact h2 i j (by omega) g2 g3
def swr (a b n : Nat) (f : Nat → α) (x : Nat) : α := if a ≤ x ∧ x < a + n then f (x + (b - a)) else if b ≤ x ∧ x < b + n then f (x - (b - a)) else f x
theorem swr_zero (a b : Nat) (f : Nat → α) (x : Nat) : swr a b 0 f x = f x := by
 unfold swr; rw [if_neg (by omega), if_neg (by omega)]
theorem swr_step {a b n : Nat} {d dk : Array α} (hab : a + n < b) (hb : b + n < d.size) (hs : dk.size = d.size) (h : ∀ x, x < d.size → dk[x]! = swr a b n (fun i => d[i]!) x) :
 ∀ x, x < d.size → (swp dk (a + n) (b + n))[x]! = swr a b (n + 1) (fun i => d[i]!) x := by
 intro x hx
 rw [swp_get dk (by omega) (by omega), h (a + n) (by omega), h (b + n) hb, h x hx]
 unfold swr
 (try dsimp only)
 repeat' split
 all_goals first | (exfalso; omega) | rfl | (congr 1; omega)
def rot (a m b : Nat) (f : Nat → α) (x : Nat) : α := if a ≤ x ∧ x < a + (b - m) then f (x + (m - a)) else if a + (b - m) ≤ x ∧ x < b then f (x - (b - m)) else f x
theorem rot_gt {m i j : Nat} (f : Nat → α) (hm : i ≤ m) (hij : j < i) (x : Nat) : rot (m - (i - j)) m (m + j) (swr (m - i) m j f) x = rot (m - i) m (m + j) f x := by
 unfold rot swr
 (try dsimp only)
 repeat' split
 all_goals first | (exfalso; omega) | rfl | (congr 1; omega)
theorem rot_lt {m i j : Nat} (f : Nat → α) (hm : i ≤ m) (hij : i < j) (x : Nat) : rot (m - i) m (m + (j - i)) (swr (m - i) (m + j - i) i f) x = rot (m - i) m (m + j) f x := by
 unfold rot swr
 (try dsimp only)
 repeat' split
 all_goals first | (exfalso; omega) | rfl | (congr 1; omega)
theorem rot_eq {m i : Nat} (f : Nat → α) (hm : i ≤ m) (x : Nat) : swr (m - i) m i f x = rot (m - i) m (m + i) f x := by
 unfold rot swr
 repeat' split
 all_goals first | (exfalso; omega) | rfl | (congr 1; omega)
theorem rot_congr {a m b n : Nat} {f g : Nat → α} (hm : a ≤ m) (hmb : m ≤ b) (hb : b ≤ n) (h : ∀ x, x < n → f x = g x) (x : Nat) (hx : x < n) : rot a m b f x = rot a m b g x := by
 unfold rot
 repeat' split
 all_goals exact h _ (by omega)
theorem rot_left {m b : Nat} (f : Nat → α) (x : Nat) : rot m m b f x = f x := by
 unfold rot
 repeat' split
 all_goals first | (exfalso; omega) | rfl | (congr 1; omega)
theorem rot_right {a m : Nat} (f : Nat → α) (x : Nat) : rot a m m f x = f x := by
 unfold rot
 repeat' split
 all_goals first | (exfalso; omega) | rfl | (congr 1; omega)
def shu (a k : Nat) (f : Nat → α) (x : Nat) : α := if a ≤ x ∧ x < k then f (x + 1) else if x = k then f a else f x
theorem shu_zero (a : Nat) (f : Nat → α) (x : Nat) : shu a a f x = f x := by
 unfold shu
 repeat' split
 all_goals first | (exfalso; omega) | rfl | (congr 1; omega)
theorem shu_step {a k : Nat} {d dk : Array α} (hak : a ≤ k) (hk : k + 1 < d.size) (hs : dk.size = d.size) (h : ∀ x, x < d.size → dk[x]! = shu a k (fun i => d[i]!) x) :
 ∀ x, x < d.size → (swp dk k (k + 1))[x]! = shu a (k + 1) (fun i => d[i]!) x := by
 intro x hx
 rw [swp_get dk (by omega) (by omega), h k (by omega), h (k + 1) hk, h x hx]
 unfold shu
 (try dsimp only)
 repeat' split
 all_goals first | (exfalso; omega) | rfl | (congr 1; omega)
def shd (k m : Nat) (f : Nat → α) (x : Nat) : α := if k < x ∧ x ≤ m then f (x - 1) else if x = k then f m else f x
theorem shd_zero (m : Nat) (f : Nat → α) (x : Nat) : shd m m f x = f x := by
 unfold shd
 repeat' split
 all_goals first | (exfalso; omega) | rfl | (congr 1; omega)
theorem shd_step {k m : Nat} {d dk : Array α} (hkm : k + 1 ≤ m) (hm : m < d.size) (hs : dk.size = d.size) (h : ∀ x, x < d.size → dk[x]! = shd (k + 1) m (fun i => d[i]!) x) :
 ∀ x, x < d.size → (swp dk (k + 1) k)[x]! = shd k m (fun i => d[i]!) x := by
 intro x hx
 rw [swp_get dk (by omega) (by omega), h k (by omega), h (k + 1) (by omega), h x hx]
 unfold shd
 (try dsimp only)
 repeat' split
 all_goals first | (exfalso; omega) | rfl | (congr 1; omega)
structure Mrg (cf : α → α → Int) (tg : α → Nat) (a m b : Nat) (d : Array α) : Prop where
 am : a < m
 mb : m < b
 bs : b ≤ d.size
 l : Rise cf tg a m d
 r : Rise cf tg m b d
 x : ∀ i j, a ≤ i → i < m → m ≤ j → j < b → tg d[i]! < tg d[j]!
theorem Mrg.one (hO : COrd cf) {a b i : Nat} {d d' : Array α} (h : Mrg cf tg a (a + 1) b d) (hi : a + 1 ≤ i) (hib : i ≤ b)
 (h1 : i = a + 1 ∨ cf d[i - 1]! d[a]! < 0) (h2 : i = b ∨ ¬ cf d[i]! d[a]! < 0) (hd : ∀ x, x < d.size → d'[x]! = shu a (i - 1) (fun k => d[k]!) x) : Rise cf tg a b d' := by
 have hb := h.bs
 have lo : ∀ k, a + 1 ≤ k → k < i → Lx cf tg d[k]! d[a]! := fun k g1 g2 => by
  rcases h1 with h1 | h1
  ·omega
  ·by_cases e : k = i - 1
   ·subst e; exact Or.inl h1
   ·exact (h.r k (i - 1) g1 (by omega) (by omega)).trans hO (Or.inl h1)
 have hi' : ∀ k, i ≤ k → k < b → Lx cf tg d[a]! d[k]! := fun k g1 g2 => by
  rcases h2 with h2 | h2
  ·omega
  ·have hx : Lx cf tg d[a]! d[i]! := Lx.of_not hO (h.x a i (qN0) (by omega) (by omega) (by omega)) h2
   by_cases e : k = i
   ·subst e; exact hx
   ·exact hx.trans hO (h.r i k (by omega) (by omega) g2)
 intro p q g1 g2 g3
 rw [hd p (by omega), hd q (by omega)]
 unfold shu
 (try dsimp only)
 repeat' split
 all_goals first
  | (exfalso; omega)
  | exact h.r _ _ (by omega) (by omega) (by omega)
  | exact lo _ (by omega) (by omega)
  | exact hi' _ (by omega) (by omega)
theorem Mrg.last (hO : COrd cf) {a m i : Nat} {d d' : Array α} (h : Mrg cf tg a m (m + 1) d) (hi : a ≤ i) (hib : i ≤ m)
 (h1 : i = a ∨ ¬ cf d[m]! d[i - 1]! < 0) (h2 : i = m ∨ cf d[m]! d[i]! < 0) (hd : ∀ x, x < d.size → d'[x]! = shd i m (fun k => d[k]!) x) : Rise cf tg a (m + 1) d' := by
 have hb := h.bs
 have hm := h.am
 have lo : ∀ k, a ≤ k → k < i → Lx cf tg d[k]! d[m]! := fun k g1 g2 => by
  rcases h1 with h1 | h1
  ·omega
  ·have hx : Lx cf tg d[i - 1]! d[m]! := Lx.of_not hO (h.x (i - 1) m (by omega) (by omega) (qN0) (by omega)) h1
   by_cases e : k = i - 1
   ·subst e; exact hx
   ·exact (h.l k (i - 1) g1 (by omega) (by omega)).trans hO hx
 have hi' : ∀ k, i ≤ k → k < m → Lx cf tg d[m]! d[k]! := fun k g1 g2 => by
  rcases h2 with h2 | h2
  ·omega
  ·by_cases e : k = i
   ·subst e; exact Or.inl h2
   ·exact Lx.trans hO (Or.inl h2) (h.l i k (by omega) (by omega) g2)
 intro p q g1 g2 g3
 rw [hd p (by omega), hd q (by omega)]
 unfold shd
 (try dsimp only)
 repeat' split
 all_goals first
  | (exfalso; omega)
  | exact h.l _ _ (by omega) (by omega) (by omega)
  | exact lo _ (by omega) (by omega)
  | exact hi' _ (by omega) (by omega)
structure Cutp (cf : α → α → Int) (a m b mid s : Nat) (d : Array α) : Prop where
 lo : a ≤ s
 hi : s ≤ mid
 sm : s ≤ m
 e : mid + m - s ≤ b
 p1 : s = a ∨ mid + m - s = b ∨ ¬ cf d[mid + m - s]! d[s - 1]! < 0
 p2 : s = m ∨ s = mid ∨ cf d[mid + m - s - 1]! d[s]! < 0
theorem Mrg.turned (hO : COrd cf) {a m b mid s : Nat} {d d' : Array α} (h : Mrg cf tg a m b d) (c : Cutp cf a m b mid s d) (ham : a < mid) (hmb : mid < b)
 (hs : d'.size = d.size) (hd : ∀ x, x < d.size → d'[x]! = rot s m (mid + m - s) (fun k => d[k]!) x) :
 (a < s → s < mid → Mrg cf tg a s mid d') ∧ (¬ (a < s ∧ s < mid) → Rise cf tg a mid d') ∧ (mid < mid + m - s → mid + m - s < b → Mrg cf tg mid (mid + m - s) b d') ∧ (¬ (mid < mid + m - s ∧ mid + m - s < b) → Rise cf tg mid b d') ∧
 (∀ i j, a ≤ i → i < mid → mid ≤ j → j < b → Lx cf tg d'[i]! d'[j]!) := by
 have hb := h.bs
 have am := h.am
 have mb := h.mb
 obtain ⟨lo, hi, sm, e, p1, p2⟩ := c
 have g : ∀ x, x < b → d'[x]! = if s ≤ x ∧ x < mid then d[x + (m - s)]! else if mid ≤ x ∧ x < mid + m - s then d[x - (mid - s)]! else d[x]! := fun x hx => by
  rw [hd x (by omega)]
  unfold rot
  (try dsimp only)
  repeat' split
  all_goals first | (exfalso; omega) | rfl | (congr 1; omega)
 have A1 : Rise cf tg a s d' := h.l.sub (qN0) sm |>.congr fun x h1 h2 => by rw [g x (by omega), if_neg (by omega), if_neg (by omega)]
 have A2 : Rise cf tg s mid d' := fun i j h1 h2 h3 => by
  rw [g i (by omega), g j (by omega), if_pos (by omega), if_pos (by omega)]
  exact h.r _ _ (by omega) (by omega) (by omega)
 have B1 : Rise cf tg mid (mid + m - s) d' := fun i j h1 h2 h3 => by
  rw [g i (by omega), g j (by omega), if_neg (by omega), if_pos (by omega), if_neg (by omega), if_pos (by omega)]
  exact h.l _ _ (by omega) (by omega) (by omega)
 have B2 : Rise cf tg (mid + m - s) b d' := fun i j h1 h2 h3 => by
  rw [g i (by omega), g j (by omega), if_neg (by omega), if_neg (by omega), if_neg (by omega), if_neg (by omega)]
  exact h.r _ _ (by omega) (by omega) (by omega)
 refine ⟨fun k1 k2 => ⟨k1, k2, by omega, A1, A2, fun i j h1 h2 h3 h4 => ?_⟩, fun hn => ?_, fun k1 k2 => ⟨k1, k2, by omega, B1, B2, fun i j h1 h2 h3 h4 => ?_⟩, fun hn => ?_, fun i j h1 h2 h3 h4 => ?_⟩
 ·rw [g i (by omega), g j (by omega), if_neg (by omega), if_neg (by omega), if_pos (by omega)]
  exact h.x _ _ (by omega) (by omega) (by omega) (by omega)
 ·by_cases hsa : s = a
  ·exact hsa ▸ A2
  ·have : s = mid := by omega
   exact this ▸ A1
 ·rw [g i (by omega), g j (by omega), if_neg (by omega), if_pos (by omega), if_neg (by omega), if_neg (by omega)]
  exact h.x _ _ (by omega) (by omega) (by omega) (by omega)
 ·by_cases hsa : s = m
  ·have : mid + m - s = mid := by omega
   exact this ▸ B2
  ·have : mid + m - s = b := by omega
   exact this ▸ B1
 ·rw [g i (by omega), g j (by omega)]
  have X1 : ∀ u v, a ≤ u → u < s → mid + m - s ≤ v → v < b → Lx cf tg d[u]! d[v]! := fun u v q1 q2 q3 q4 => by
   rcases p1 with p1 | p1 | p1
   ·omega
   ·omega
   ·have hx : Lx cf tg d[s - 1]! d[mid + m - s]! := Lx.of_not hO (h.x _ _ (by omega) (by omega) (by omega) (by omega)) p1
    have h5 : Lx cf tg d[u]! d[mid + m - s]! := by
     by_cases e : u = s - 1
     ·subst e; exact hx
     ·exact (h.l u (s - 1) q1 (by omega) (by omega)).trans hO hx
    by_cases e : v = mid + m - s
    ·subst e; exact h5
    ·exact h5.trans hO (h.r _ v (by omega) (by omega) q4)
  have X2 : ∀ u v, m ≤ u → u < mid + m - s → s ≤ v → v < m → Lx cf tg d[u]! d[v]! := fun u v q1 q2 q3 q4 => by
   rcases p2 with p2 | p2 | p2
   ·omega
   ·omega
   ·have h5 : Lx cf tg d[u]! d[s]! := by
     by_cases e : u = mid + m - s - 1
     ·subst e; exact Or.inl p2
     ·exact (h.r u (mid + m - s - 1) q1 (by omega) (by omega)).trans hO (Or.inl p2)
    by_cases e : v = s
    ·subst e; exact h5
    ·exact h5.trans hO (h.l s v (by omega) (by omega) q4)
  repeat' split
  all_goals first
   | (exfalso; omega)
   | exact X1 _ _ (by omega) (by omega) (by omega) (by omega)
   | exact X2 _ _ (by omega) (by omega) (by omega) (by omega)
   | exact h.l _ _ (by omega) (by omega) (by omega)
   | exact h.r _ _ (by omega) (by omega) (by omega)
theorem rise_both (a mid b : Nat) {d1 d2 d3 : Array α} (hmb : mid ≤ b) (hb : b ≤ d1.size) (hx : ∀ i j, a ≤ i → i < mid → mid ≤ j → j < b → Lx cf tg d1[i]! d1[j]!)
 (h1 : PermIn a mid d1 d2) (r1 : Rise cf tg a mid d2) (h2 : PermIn mid b d2 d3) (r2 : Rise cf tg mid b d3) : Rise cf tg a b d3 := by
 have k1 : ∀ i, a ≤ i → i < mid → ∀ j, mid ≤ j → j < b → Lx cf tg d2[i]! d1[j]! := permIn_all d1 d2 a mid (fun x => ∀ j, mid ≤ j → j < b → Lx cf tg x d1[j]!) (by omega) h1 (fun i q1 q2 j q3 q4 => hx i j q1 q2 q3 q4)
 have k2 : ∀ j, mid ≤ j → j < b → ∀ i, a ≤ i → i < mid → Lx cf tg d2[i]! d3[j]! := permIn_all d2 d3 mid b (fun y => ∀ i, a ≤ i → i < mid → Lx cf tg d2[i]! y) (by rw [h1.1]; omega) h2 (fun j q1 q2 i q3 q4 => by rw [h1.2.1 j (Or.inr q1)]; exact k1 i q3 q4 j q1 q2)
 refine Rise.join (r1.congr fun x q1 q2 => h2.2.1 x (Or.inl q2)) r2 fun i j q1 q2 q3 q4 => ?_
 rw [h2.2.1 i (Or.inl q2)]
 exact k2 j q3 q4 i q1 q2
end
end Go.Proofs.YtnpnfajgphpabaaGreat.Stb

namespace Go.Proofs.YtnpnfajgphpabaaGreat.Stb
open Go.Sort
set_option linter.unusedSectionVars false
variable {α : Type} [Inhabited α] {cf : α → α → Int} {tg : α → Nat}
def lb (cf : α → α → Int) (x y : α) : Bool := decide (cf x y < 0)
structure InsR (cf : α → α → Int) (tg : α → Nat) (a j i : Nat) (d : Array α) : Prop where
 rest : ∀ p q, a ≤ p → p < q → q ≤ i → p ≠ j → q ≠ j → Lx cf tg d[p]! d[q]!
 right : ∀ q, j < q → q ≤ i → Lx cf tg d[j]! d[q]!
 most : ∀ q, a ≤ q → q ≤ i → q ≠ j → tg d[q]! < tg d[j]!
theorem InsR.stop (hO : COrd cf) {a j i : Nat} {d : Array α} (h : InsR cf tg a j i d) (haj : a ≤ j) (hji : j ≤ i) (hs : j ≤ a ∨ lb cf d[j]! d[j - 1]! = false) : Rise cf tg a (i + 1) d := by
 have hl : ∀ p, a ≤ p → p < j → Lx cf tg d[p]! d[j]! := fun p h1 h2 => by
  rcases hs with hs | hs
  ·omega
  ·have hx : Lx cf tg d[j - 1]! d[j]! := Lx.of_not hO (h.most _ (by omega) (by omega) (by omega)) (by simpa [lb] using hs)
   by_cases e : p = j - 1
   ·subst e; exact hx
   ·exact (h.rest p (j - 1) h1 (by omega) (by omega) (by omega) (by omega)).trans hO hx
 intro p q hap hpq hqi
 by_cases hq : q = j
 ·subst hq; exact hl p hap hpq
 ·by_cases hp : p = j
  ·subst hp; exact h.right q hpq (by omega)
  ·exact h.rest p q hap hpq (by omega) hp hq
theorem InsR.step {a j i : Nat} {d : Array α} (h : InsR cf tg a (j + 1) i d) (hl : lb cf d[j + 1]! d[j]! = true) (haj : a ≤ j) (hji : j + 1 ≤ i) (hsz : j + 1 < d.size) : InsR cf tg a j i (swp d (j + 1) j) := by
 have g := swp_get d hsz (show j < d.size by omega)
 have hl' : cf d[j + 1]! d[j]! < 0 := by simpa [lb] using hl
 refine ⟨fun p q hap hpq hqi hp hq => ?_, fun q hjq hqi => ?_, fun q haq hqi hq => ?_⟩
 ·rw [g, g]
  repeat' split
  all_goals first
   | (exfalso; omega)
   | exact h.rest _ _ (by omega) (by omega) (by omega) (by omega) (by omega)
 ·rw [g, g, if_pos rfl]
  repeat' split
  all_goals first
   | (exfalso; omega)
   | exact Or.inl hl'
   | exact h.right _ (by omega) (by omega)
 ·rw [g, g, if_pos rfl]
  repeat' split
  all_goals first
   | (exfalso; omega)
   | exact h.most _ (by omega) (by omega) (by omega)
theorem qdd (hO : COrd cf) (a i : Nat) : ∀ (j : Nat) (d : Array α), a ≤ j → j ≤ i → i + 1 ≤ d.size → InsR cf tg a j i d →
 PermIn a (i + 1) d (insInner (lb cf) a j d) ∧ Rise cf tg a (i + 1) (insInner (lb cf) a j d)
 | 0, d, h1, h2, _, hI => by
  unfold insInner
  exact ⟨permIn_refl d a _, hI.stop hO h1 h2 (Or.inl (Nat.zero_le _))⟩
 | j + 1, d, haj, hji, hb, hI => by
  unfold insInner
  split
  ·rename_i hc
   simp only [Bool.and_eq_true, decide_eq_true_eq] at hc
   have ih := qdd hO a i j (swp d (j + 1) j) (by omega) (by omega) (by rw [swp_size]; exact hb) (hI.step hc.2 (by omega) hji (by omega))
   exact ⟨permIn_trans _ _ _ a (i + 1) (swp_permIn d a (i + 1) (j + 1) j haj (by omega) (by omega) (by omega) hb) ih.1, ih.2⟩
  ·rename_i hc
   simp only [Bool.and_eq_true, decide_eq_true_eq, not_and, Bool.not_eq_true] at hc
   refine ⟨permIn_refl d a _, hI.stop hO haj hji ?_⟩
   by_cases h : j + 1 > a
   ·exact Or.inr (by simpa using hc h)
   ·exact Or.inl (by omega)
theorem qdn (hO : COrd cf) (a b : Nat) : ∀ (n i : Nat) (d : Array α), b - i = n → a < i → i ≤ b → b ≤ d.size → Rise cf tg a i d → (∀ p q, a ≤ p → p < q → i ≤ q → q < b → tg d[p]! < tg d[q]!) →
 PermIn a b d (insOuter (lb cf) a b i d) ∧ Rise cf tg a b (insOuter (lb cf) a b i d)
 | 0, i, d, hn, _, hib, _, hs, _ => by
  obtain rfl : i = b := by omega
  rw [insOuter, if_neg (by omega)]
  exact ⟨permIn_refl d a i, hs⟩
 | n + 1, i, d, hn, hai, hib, hb, hs, ht => by
  have hlt : i < b := by omega
  rw [insOuter, if_pos hlt]
  have h1 := qdd hO a i i d (by omega) (qN0) (by omega) ⟨fun p q hap hpq hqi _ hq => hs p q hap hpq (by omega), fun q h1 h2 => by omega, fun q h1 h2 h3 => ht q i h1 (by omega) (qN0) hlt⟩
  have hp := h1.1
  have ht2 : ∀ p q, a ≤ p → p < q → i + 1 ≤ q → q < b → tg (insInner (lb cf) a i d)[p]! < tg (insInner (lb cf) a i d)[q]! := fun p q g1 g2 g3 g4 => by
   rw [hp.2.1 q (Or.inr g3)]
   by_cases hpi : p < i + 1
   ·exact permIn_all d _ a (i + 1) (fun x => tg x < tg d[q]!) (by omega) hp (fun k k1 k2 => ht k q k1 (by omega) (by omega) g4) p g1 hpi
   ·rw [hp.2.1 p (Or.inr (by omega))]; exact ht p q g1 g2 (by omega) g4
  have h2 := qdn hO a b n (i + 1) (insInner (lb cf) a i d) (by omega) (by omega) (by omega) (by rw [hp.1]; exact hb) h1.2 ht2
  exact ⟨permIn_trans _ _ _ a b (permIn_mono _ _ a (i + 1) a b (qN0) (by omega) hb hp) h2.1, h2.2⟩
theorem insertion_rise (hO : COrd cf) (d : Array α) (a b : Nat) (hab : a ≤ b) (hb : b ≤ d.size) (ht : ∀ p q, a ≤ p → p < q → q < b → tg d[p]! < tg d[q]!) :
 PermIn a b d (insertionSort (lb cf) d a b) ∧ Rise cf tg a b (insertionSort (lb cf) d a b) := by
 unfold insertionSort
 by_cases h : a = b
 ·subst h
  rw [insOuter, if_neg (by omega)]
  exact ⟨permIn_refl d a a, fun i j h1 h2 h3 => by omega⟩
 ·exact qdn hO a b (b - (a + 1)) (a + 1) d rfl (by omega) (by omega) hb (fun i j h1 h2 h3 => by omega) (fun p q h1 h2 h3 h4 => ht p q h1 h2 h4)
structure Blk (cf : α → α → Int) (tg : α → Nat) (s : Nat) (d : Array α) : Prop where
 own : ∀ q i, q * s ≤ i → i < q * s + s → i < d.size → q * s ≤ tg d[i]! ∧ tg d[i]! < q * s + s
 up : ∀ q i j, q * s ≤ i → i < j → j < q * s + s → j < d.size → Lx cf tg d[i]! d[j]!
structure Blk0 (cf : α → α → Int) (tg : α → Nat) (s a : Nat) (d : Array α) : Prop where
 own : ∀ q i, q * s ≤ i → i < q * s + s → i < a → q * s ≤ tg d[i]! ∧ tg d[i]! < q * s + s
 up : ∀ q i j, q * s ≤ i → i < j → j < q * s + s → j < a → Lx cf tg d[i]! d[j]!
 rest : ∀ i, a ≤ i → i < d.size → tg d[i]! = i
theorem Blk0.start {s : Nat} {d : Array α} (h : ∀ i, i < d.size → tg d[i]! = i) : Blk0 cf tg s 0 d := ⟨fun q i h1 h2 h3 => by omega, fun q i j h1 h2 h3 h4 => by omega, fun i _ h1 => h i h1⟩
theorem blk_lt {q r s : Nat} (h : q < r) : q * s + s ≤ r * s := by
 have := Nat.mul_le_mul_right s (show q + 1 ≤ r from h); rwa [Nat.succ_mul] at this
theorem Blk0.tags {s a e : Nat} {d : Array α} (h : Blk0 cf tg s a d) (he : e ≤ d.size) : ∀ p q, a ≤ p → p < q → q < e → tg d[p]! < tg d[q]! := fun p q h1 h2 h3 => by
 rw [h.rest p h1 (by omega), h.rest q (by omega) (by omega)]; exact h2
theorem Blk0.next {s r e : Nat} {d d' : Array α} (h : Blk0 cf tg s (r * s) d) (he : e ≤ d.size) (hae : r * s ≤ e) (hes : e ≤ r * s + s) (hp : PermIn (r * s) e d d') (hr : Rise cf tg (r * s) e d') : Blk0 cf tg s e d' := by
 have lo : ∀ i, i < r * s → d'[i]! = d[i]! := fun i hi => hp.2.1 i (Or.inl hi)
 have mid : ∀ i, r * s ≤ i → i < e → r * s ≤ tg d'[i]! ∧ tg d'[i]! < e := permIn_all d d' (r * s) e (fun x => r * s ≤ tg x ∧ tg x < e) he hp (fun i h1 h2 => by rw [h.rest i h1 (by omega)]; exact ⟨h1, h2⟩)
 refine ⟨fun q i h1 h2 h3 => ?_, fun q i j h1 h2 h3 h4 => ?_, fun i h1 h2 => ?_⟩
 ·by_cases hi : i < r * s
  ·rw [lo i hi]; exact h.own q i h1 h2 hi
  ·have hqr : q = r := by
    rcases Nat.lt_trichotomy q r with hh | hh | hh
    ·have := blk_lt (s := s) hh; omega
    ·exact hh
    ·have := blk_lt (s := s) hh; omega
   subst hqr
   have := mid i (by omega) h3
   omega
 ·by_cases hj : j < r * s
  ·rw [lo i (by omega), lo j hj]; exact h.up q i j h1 h2 h3 hj
  ·have hqr : q = r := by
    rcases Nat.lt_trichotomy q r with hh | hh | hh
    ·have := blk_lt (s := s) hh; omega
    ·exact hh
    ·have := blk_lt (s := s) hh; omega
   subst hqr
   exact hr i j h1 h2 h4
 ·rw [hp.2.1 i (Or.inr h1)]
  exact h.rest i (by omega) (by rw [← hp.1]; exact h2)
theorem Blk0.whole {s : Nat} {d : Array α} (h : Blk0 cf tg s d.size d) : Blk cf tg s d := ⟨h.own, h.up⟩
theorem Blk.rise {s : Nat} {d : Array α} (h : Blk cf tg s d) (hs : d.size ≤ s) : Rise cf tg 0 d.size d := fun i j _ h2 h3 => h.up 0 i j (by omega) h2 (by omega) h3
structure Blk2 (cf : α → α → Int) (tg : α → Nat) (s a : Nat) (d : Array α) : Prop where
 own2 : ∀ q i, q * (2 * s) ≤ i → i < q * (2 * s) + 2 * s → i < d.size → q * (2 * s) ≤ tg d[i]! ∧ tg d[i]! < q * (2 * s) + 2 * s
 own : ∀ q i, a ≤ i → q * s ≤ i → i < q * s + s → i < d.size → q * s ≤ tg d[i]! ∧ tg d[i]! < q * s + s
 up2 : ∀ q i j, q * (2 * s) ≤ i → i < j → j < q * (2 * s) + 2 * s → j < a → Lx cf tg d[i]! d[j]!
 up : ∀ q i j, a ≤ i → q * s ≤ i → i < j → j < q * s + s → j < d.size → Lx cf tg d[i]! d[j]!
theorem twice (q s : Nat) : q * (2 * s) = 2 * q * s ∧ (2 * q + 1) * s = 2 * q * s + s := ⟨by rw [← Nat.mul_assoc, Nat.mul_comm q 2], by rw [Nat.succ_mul]⟩
theorem Blk2.start {s : Nat} {d : Array α} (h : Blk cf tg s d) : Blk2 cf tg s 0 d := by
 refine ⟨fun q i h1 h2 h3 => ?_, fun q i _ => h.own q i, fun q i j h1 h2 h3 h4 => by omega, fun q i j _ => h.up q i j⟩
 obtain ⟨e1, e2⟩ := twice q s
 by_cases hi : i < 2 * q * s + s
 ·have := h.own (2 * q) i (by omega) hi h3; omega
 ·have := h.own (2 * q + 1) i (by omega) (by omega) h3; omega
theorem Blk2.mrg {s r e : Nat} {d : Array α} (h : Blk2 cf tg s (r * (2 * s)) d) (hs : 0 < s) (he : e ≤ d.size) (h1 : r * (2 * s) + s < e) (h2 : e ≤ r * (2 * s) + 2 * s) : Mrg cf tg (r * (2 * s)) (r * (2 * s) + s) e d := by
 obtain ⟨e1, e2⟩ := twice r s
 refine ⟨by omega, h1, he, fun i j g1 g2 g3 => h.up (2 * r) i j g1 (by omega) g2 (by omega) (by omega), fun i j g1 g2 g3 => h.up (2 * r + 1) i j (by omega) (by omega) g2 (by omega) (by omega), fun i j g1 g2 g3 g4 => ?_⟩
 have a1 := h.own (2 * r) i g1 (by omega) (by omega) (by omega)
 have a2 := h.own (2 * r + 1) j (by omega) (by omega) (by omega) (by omega)
 omega
theorem Blk2.next {s r e : Nat} {d d' : Array α} (h : Blk2 cf tg s (r * (2 * s)) d) (he : e ≤ d.size) (h1 : r * (2 * s) ≤ e) (h2 : e ≤ r * (2 * s) + 2 * s) (h3 : e = r * (2 * s) + 2 * s ∨ e = d.size) (hp : PermIn (r * (2 * s)) e d d') (hr : Rise cf tg (r * (2 * s)) e d') : Blk2 cf tg s e d' := by
 obtain ⟨e1, e2⟩ := twice r s
 have lo : ∀ i, i < r * (2 * s) → d'[i]! = d[i]! := fun i hi => hp.2.1 i (Or.inl hi)
 have up : ∀ i, e ≤ i → d'[i]! = d[i]! := fun i hi => hp.2.1 i (Or.inr hi)
 have mid : ∀ i, r * (2 * s) ≤ i → i < e → r * (2 * s) ≤ tg d'[i]! ∧ tg d'[i]! < r * (2 * s) + 2 * s := permIn_all d d' _ e (fun x => r * (2 * s) ≤ tg x ∧ tg x < r * (2 * s) + 2 * s) he hp (fun i k1 k2 => h.own2 r i k1 (by omega) (by omega))
 have hsz := hp.1
 refine ⟨fun q i k1 k2 k3 => ?_, fun q i k0 k1 k2 k3 => ?_, fun q i j k1 k2 k3 k4 => ?_, fun q i j k0 k1 k2 k3 k4 => ?_⟩
 ·by_cases hi : i < r * (2 * s)
  ·rw [lo i hi]; exact h.own2 q i k1 k2 (by omega)
  ·by_cases hie : i < e
   ·have hqr : q = r := by
     rcases Nat.lt_trichotomy q r with hh | hh | hh
     ·have := blk_lt (s := 2 * s) hh; omega
     ·exact hh
     ·have := blk_lt (s := 2 * s) hh; omega
    subst hqr
    exact mid i (by omega) hie
   ·rw [up i (by omega)]; exact h.own2 q i k1 k2 (by omega)
 ·rw [up i k0]; exact h.own q i (by omega) k1 k2 (by omega)
 ·by_cases hj : j < r * (2 * s)
  ·rw [lo i (by omega), lo j hj]; exact h.up2 q i j k1 k2 k3 hj
  ·have hqr : q = r := by
    rcases Nat.lt_trichotomy q r with hh | hh | hh
    ·have := blk_lt (s := 2 * s) hh; omega
    ·exact hh
    ·have := blk_lt (s := 2 * s) hh; omega
   subst hqr
   exact hr i j k1 k2 k4
 ·rw [up i k0, up j (by omega)]; exact h.up q i j (by omega) k1 k2 k3 (by omega)
theorem Blk2.short {s r : Nat} {d : Array α} (h : Blk2 cf tg s (r * (2 * s)) d) (h1 : d.size ≤ r * (2 * s) + s) : Rise cf tg (r * (2 * s)) d.size d := by
 obtain ⟨e1, e2⟩ := twice r s
 exact fun i j g1 g2 g3 => h.up (2 * r) i j g1 (by omega) g2 (by omega) g3
theorem Blk2.whole {s a : Nat} {d : Array α} (h : Blk2 cf tg s a d) (ha : d.size ≤ a) : Blk cf tg (2 * s) d := ⟨h.own2, fun q i j h1 h2 h3 h4 => h.up2 q i j h1 h2 h3 (by omega)⟩
end Go.Proofs.YtnpnfajgphpabaaGreat.Stb

namespace Go.Proofs.YtnpnfajgphpabaaGreat
set_option maxRecDepth 20000
open Go.RowKit Go.Shelf
def OwnK {α : Type} (k : Nat) (T : TypeId) (enc : α → List Value) (W : World) (base : Nat) (v : Value) (xs : List α) : Prop := W.ownsRow base T k v xs.length (xs.flatMap enc)
structure ElemK (k : Nat) (T S : TypeId) (bytes : Nat) : Prop where
 ht : Tryz.prog.underlying S = some (.slice T)
 info : ∃ i z, Tryz.prog.info? T = some i ∧ i.zero = some z ∧ i.size = k ∧ i.bytes = bytes ∧ z.cells.size = k
theorem kcell {W : World} {B : Nat} {cs : Array Value} {t : TypeId} (h : W.heap[B]? = some (.cells cs t)) (j : Nat) (v : Value) (hv : cs[j]? = some v) : W.cell? ⟨B, j, none⟩ = some v := by
 simp only [World.cell?, h]
 simpa using hv
theorem kset {W : World} {B : Nat} {cs : Array Value} {t : TypeId} (h : W.heap[B]? = some (.cells cs t)) (j : Nat) (v : Value) : (W.setCell ⟨B, j, none⟩ v).heap[B]? = some (.cells (cs.setIfInBounds j v) t) := by
 obtain ⟨hlt, hk⟩ := Array.getElem?_eq_some_iff.1 h
 show (W.heap.modify B _)[B]? = _
 rw [Array.getElem?_eq_getElem (by rw [Array.size_modify]; exact hlt), Array.getElem_modify_self, hk]
 rfl
theorem qe2 (W : World) (b j : Nat) (v : Value) : W.grownBy (W.setCell ⟨b, j, none⟩ v) (some b) :=
 ⟨rfl, rfl, rfl, (KeepsWalks.setCell W _ v).size, fun k _ hk => Below.heap_setCell _ _ _ k (fun e => hk (by rw [e]))⟩
theorem qag {W : World} {B : Nat} {cs : Array Value} {t : TypeId} (h : W.heap[B]? = some (.cells cs t)) (j : Nat) : W.frozen? ⟨B, j, none⟩ = false := by simp [World.frozen?, h]
theorem qaa {W : World} {B : Nat} {o : Obj} (h : W.heap[B]? = some o) : B < W.heap.size := (Array.getElem?_eq_some_iff.1 h).1
theorem knew (W : World) (o : Obj) : (W.alloc o).heap[W.heap.size]? = some o := by
 show (W.heap.push o)[W.heap.size]? = some o
 simp
theorem kdrew {n : Nat} {a w : World} (h : Below n a w) : Below n a w.drew := h.trans ⟨rfl, rfl, rfl, qN0, fun _ _ => rfl⟩
theorem qcG (w : World) (r : Option Nat) : w.grownBy w r := ⟨rfl, rfl, rfl, qN0, fun _ _ _ => rfl⟩
theorem qat {a b c : World} {r : Option Nat} (h : a.grownBy b r) (g : b.grownBy c r) : a.grownBy c r :=
 ⟨g.os.trans h.os, g.tape.trans h.tape, g.output.trans h.output, Nat.le_trans h.size g.size, fun k hk hne => (g.block k (Nat.lt_of_lt_of_le hk h.size) hne).trans (h.block k hk hne)⟩
theorem qk4 (w : World) (r : Option Nat) : w.grownBy w.drew r := ⟨rfl, rfl, rfl, qN0, fun _ _ _ => rfl⟩
section
variable {α : Type} {k : Nat} {T S : TypeId} {enc : α → List Value}
theorem OwnK.alloc {W : World} {base : Nat} {v : Value} {xs : List α} (h : OwnK k T enc W base v xs) (o : Obj) : OwnK k T enc (W.alloc o) base v xs := World.ownsRow.alloc h o
theorem OwnK.nil (W : World) (base : Nat) : OwnK k T enc W base (.slice none 0 0) [] := World.ownsRow_nil _ _ _ _
theorem OwnK.base_le {W : World} {base : Nat} {v : Value} {xs : List α} (h : OwnK k T enc W base v xs) : ∀ b, v.ownBlock = some b → base ≤ b := by
 intro b hk
 rcases h.2 with ⟨rfl, _⟩ | ⟨g, cap, cur, rfl, hb, _⟩
 ·simp [Value.ownBlock] at hk
 ·obtain rfl : g = b := by simpa [Value.ownBlock] using hk
  exact hb
theorem OwnK.shape {W : World} {base : Nat} {v : Value} {xs : List α} (h : OwnK k T enc W base v xs) : ∃ a c, v = .slice a xs.length c := by
 rcases h.2 with ⟨rfl, h0⟩ | ⟨g, cap, cur, rfl, _⟩
 ·exact ⟨none, 0, by rw [h0]⟩
 ·exact ⟨_, _, rfl⟩
theorem OwnK.kept {W W' : World} {row : Option Nat} {base : Nat} {v : Value} {xs : List α} (h : OwnK k T enc W base v xs) (hg : W.grownBy W' row) (hne : v.ownBlock = none ∨ v.ownBlock ≠ row) : OwnK k T enc W' base v xs := World.ownsRow.kept h hg hne
theorem OwnK.below {W W' : World} {base : Nat} {v : Value} {xs : List α} (h : OwnK k T enc W base v xs) (hb : Below W.heap.size W W') : OwnK k T enc W' base v xs :=
 h.kept (row := none) ⟨hb.os, hb.tape, hb.output, hb.size, fun k hk _ => hb.block k hk⟩ (by cases v.ownBlock <;> simp)
theorem OwnK.lt {W : World} {base : Nat} {v : Value} {xs : List α} (h : OwnK k T enc W base v xs) : ∀ b, v.ownBlock = some b → b < W.heap.size := by
 intro b hk
 rcases h.2 with ⟨rfl, _⟩ | ⟨g, cap, cur, rfl, hb, hg, _⟩
 ·simp [Value.ownBlock] at hk
 ·obtain rfl : g = b := by simpa [Value.ownBlock] using hk
  exact (Array.getElem?_eq_some_iff.1 hg).1
theorem OwnK.weaken {W : World} {base b2 : Nat} {v : Value} {xs : List α} (h : OwnK k T enc W base v xs) (hb : b2 ≤ base) : OwnK k T enc W b2 v xs := by
 refine ⟨h.1, ?_⟩
 rcases h.2 with hn | ⟨g, cap, cur, e, hg, rest⟩
 ·exact .inl hn
 ·exact .inr ⟨g, cap, cur, e, by omega, rest⟩
theorem OwnK.ne_block {W : World} {base : Nat} {v : Value} {xs : List α} (h : OwnK k T enc W base v xs) {B : Nat} {cs : Array Value} {t : TypeId} (hB : W.heap[B]? = some (.cells cs t)) (ht : t ≠ T) : some B ≠ v.ownBlock := by
 rcases h.2 with ⟨rfl, _⟩ | ⟨g, cap, cur, rfl, _, hg, _⟩
 ·simp [Value.ownBlock]
 ·intro e
  obtain rfl : B = g := by simpa [Value.ownBlock] using e
  rw [hg] at hB
  cases hB
  exact ht rfl
theorem OwnK.apart {β : Type} {k' : Nat} {T' : TypeId} {enc' : β → List Value} {W : World} {base base' : Nat} {v v' : Value} {xs : List α} {ys : List β} (h : OwnK k T enc W base v xs) (h' : OwnK k' T' enc' W base' v' ys) (hT : T ≠ T') : v.ownBlock = none ∨ v.ownBlock ≠ v'.ownBlock := by
 rcases h.2 with ⟨rfl, _⟩ | ⟨g, cap, cur, rfl, _, hg, _⟩
 ·left; rfl
 ·right
  intro e
  exact h'.ne_block hg hT e
theorem OwnK.kept2 {β : Type} {k' : Nat} {T' : TypeId} {enc' : β → List Value} {W W' : World} {base base' : Nat} {v v' : Value} {xs : List α} {ys : List β} (h : OwnK k T enc W base v xs) (h' : OwnK k' T' enc' W base' v' ys) (hT : T ≠ T') (hg : W.grownBy W' v'.ownBlock) : OwnK k T enc W' base v xs :=
 h.kept hg (h.apart h' hT)
theorem OwnK.keptB {W : World} {base : Nat} {v : Value} {xs : List α} (h : OwnK k T enc W base v xs) {B : Nat} {cs : Array Value} {t : TypeId} (hB : W.heap[B]? = some (.cells cs t)) (ht : t ≠ T) (j : Nat) (u : Value) : OwnK k T enc (W.setCell ⟨B, j, none⟩ u) base v xs :=
 h.kept (qe2 W B j u) (.inr (fun e => h.ne_block hB ht e.symm))
theorem OwnK.cut {W : World} {base : Nat} {a : Option Addr} {n c : Nat} {xs : List α} (h : OwnK k T enc W base (.slice a n c) xs) (m : Nat) (hm : m ≤ xs.length) (henc : ∀ x, (enc x).length = k) : OwnK k T enc W base (.slice a m c) (xs.take m) := by
 have hlen : ∀ l : List α, (l.flatMap enc).length = l.length * k := by
  intro l; induction l with
  | nil => simp
  | cons x l ih => simp [ih, henc, Nat.add_mul, Nat.add_comm]
 have htake : ∀ (l : List α) (m : Nat), (l.take m).flatMap enc = (l.flatMap enc).take (m * k) := by
  intro l; induction l with
  | nil => intro m; simp
  | cons x l ih =>
   intro m
   cases m with
   | zero => simp
   | succ m =>
    rw [List.take_succ_cons, List.flatMap_cons, List.flatMap_cons, ih, Nat.succ_mul, Nat.add_comm (m * k) k, List.take_append, List.take_of_length_le (l := enc x) (by rw [henc]; omega), henc, Nat.add_sub_cancel_left]
 unfold OwnK World.ownsRow at h ⊢
 have hl : (xs.take m).length = m := by rw [List.length_take]; omega
 rw [hl]
 refine ⟨by rw [hlen, hl], ?_⟩
 rcases h.2 with ⟨e, h0⟩ | ⟨g, cap, cur, e, hb, hg, hc, hmx, hsz, htk⟩
 ·cases e
  left
  exact ⟨by congr 1; omega, by omega⟩
 ·cases e
  right
  refine ⟨g, c, cur, rfl, hb, hg, by omega, hmx, hsz, ?_⟩
  rw [htake, ← htk, List.take_take]
  congr 1
  exact (Nat.min_eq_left (Nat.mul_le_mul_right k hm)).symm
end
end Go.Proofs.YtnpnfajgphpabaaGreat
namespace Go.Proofs.YtnpnfajgphpabaaGreat
set_option maxRecDepth 20000
open Go.RowKit Go.Shelf
structure WIn (C : World → Prop) where
 w : World
 ok : C w
theorem qad {P : Program} {id : Nat} {Q : Exit → Act → World → Prop} {a : Act} {w : World} {l : List Oper} (C : World → Prop) (hm : P.follows .mixedOrders = true) (hB : Region.lexB .any l.toArray = true) (hC : C w.drew)
 (h : wpQuiet P l.toArray (fun w' => ∃ p : WIn C, w' = p.w) (fun a' => ∀ w', (∃ p : WIn C, w' = p.w) → Q .normal a' w') l a) : (Code.region id l.toArray true).wp P Q a w :=
 wp_region_quiet (C := fun w' => ∃ p : WIn C, w' = p.w) hm hB ⟨⟨w.drew, hC⟩, rfl⟩ (by simpa using h)
theorem Calls.cls {C : World → Prop} {P : Program} {f : FuncId} {args : Array Value} {w : World} {v : Value}
 (h : Calls P f args w fun e w' => e = .returned v ∧ C w') : Calls P f args w fun e w'' => e = .returned v ∧ ∃ q : WIn C, w'' = q.w :=
 h.mono fun _ w' ⟨he, hc⟩ => ⟨he, ⟨w', hc⟩, rfl⟩
end Go.Proofs.YtnpnfajgphpabaaGreat
namespace Go.Proofs.YtnpnfajgphpabaaGreat
set_option maxRecDepth 20000
open Go.RowKit Go.Shelf
section
variable {F : Fence} {d : Nat} {P : Program} {ops : Array Oper} {md : Region.Mode} {C : World → Prop}
def qcr (F : Fence) (d : Nat) (P : Program) (md : Region.Mode) (ops : Array Oper) (C : World → Prop) (n : Nat) (L : Array Bool → Act → Prop) : Nat → Array Bool → Act → Prop
 | 0, listed, a => L listed a
 | f + 1, listed, a =>
  Region.ready md ops listed ≠ [] ∧ ∀ i ∈ Region.ready md ops listed, i < n ∧ qOpIn F d P ops C i (qcr F d P md ops C n L f (listed.setIfInBounds i true)) a
theorem qcz {n g : Nat} {L : Array Bool → Act → Prop} {Q' : Exit → Act → World → Prop} (hro : F.round = none) (hL : ∀ listed a w, C w → L listed a → wpAnyIn F d P md ops Q' g listed a w) :
 ∀ (f : Nat) (listed : Array Bool) (a : Act) (w : World), C w → qcr F d P md ops C n L f listed a → wpAnyIn F d P md ops Q' (f + g) listed a w
 | 0, listed, a, w, hw, h => by rw [Nat.zero_add]; exact hL _ _ _ hw h
 | f + 1, listed, a, w, hw, h => by
  rw [show f + 1 + g = (f + g) + 1 by omega]
  exact ⟨fun h0 => absurd h0 h.1, fun i hi => wpOpIn_of_qOpIn hro hw (fun a' w' hw' h' => qcz hro hL f _ a' w' hw' h') (h.2 i hi).2⟩
theorem qfa {n i : Nat} {oi : Oper} {v : Value} {L : Array Bool → Act → Prop} (hi : ops[i]? = some oi) (hsel : ∀ (j : Nat) (o : Oper) cs b, ops[j]? = some o → o.op ≠ .select cs b)
 (hs : Region.sinkB md ops n = true) (hc : Region.chainB md ops n = true) (hn : n < ops.size) (hin : i < n)
 (hdone : ∀ listed a, L listed a → ∀ j ∈ Region.ready md ops listed, n ≤ j) :
 ∀ (f : Nat) (listed : Array Bool) (a : Act), HeadInv md ops n listed →
  (∀ j oj, ops[j]? = some oj → j ≠ i → listed.getD j true = false → (∀ e ∈ oj.after, Region.binds md e = true → e.on ≠ i) → oi.apart ops oj = true) →
  i ∈ Region.ready md ops listed → YieldsQuiet F d P ops C oi v a →
  qcr F d P md ops C n L f (listed.setIfInBounds i true) (a.put oi.dst v) → qcr F d P md ops C n L (f + 1) listed a := by
 intro f
 induction f with
 | zero =>
  intro listed a inv _ hr hy H
  have hun := (mem_ready.1 hr).1
  refine ⟨fun h => (by rw [h] at hr; cases hr), fun j hj => ?_⟩
  have hjn : j < n := by
   rcases Nat.lt_or_ge j n with h | h
   ·exact h
   ·exact absurd hj (tail_waits hs hc hn inv _ i rfl hin hun j h)
  refine ⟨hjn, ?_⟩
  by_cases hji : j = i
  ·subst hji; exact hy.qOpIn hi H
  ·have := hdone _ _ H j (ready_mono hj hji)
   omega
 | succ f ih =>
  intro listed a inv hfree hr hy H
  have hun := (mem_ready.1 hr).1
  refine ⟨fun h => (by rw [h] at hr; cases hr), fun j hj => ?_⟩
  have hjn : j < n := by
   rcases Nat.lt_or_ge j n with h | h
   ·exact h
   ·exact absurd hj (tail_waits hs hc hn inv _ i rfl hin hun j h)
  refine ⟨hjn, ?_⟩
  by_cases hji : j = i
  ·subst hji; exact hy.qOpIn hi H
  ·have h1 := (H.2 j (ready_mono hj hji)).2
   obtain ⟨hjun, oj, hoj, hall⟩ := mem_ready.1 hj
   have hnot : ∀ e ∈ oj.after, Region.binds md e = true → e.on ≠ i := fun e he hb heq => by
    have h1 := hall e he hb
    rw [heq, getD_both hun] at h1
    cases h1
   have h2 := qOpIn_put hoj (hfree j oj hoj hji hjun hnot) (fun cs b => hsel i oi cs b hi) (fun cs b => hsel j oj cs b hoj) hy h1
   have hfree' : ∀ k ok, ops[k]? = some ok → k ≠ i → (listed.setIfInBounds j true).getD k true = false →
    (∀ e ∈ ok.after, Region.binds md e = true → e.on ≠ i) → oi.apart ops ok = true := fun k ok hk hki hun hno => by
    refine hfree k ok hk hki ?_ hno
    by_cases hjk : j = k
    ·subst hjk; exact hjun
    ·rw [getD_set_ne true hjk] at hun; exact hun
   refine qOpIn_mono (fun a' h3 => ih (listed.setIfInBounds j true) a' (inv.set hj hjn) hfree' (ready_mono hr (Ne.symm hji)) h3.1 ?_) h2
   rw [Array.setIfInBounds_comm _ _ hji]
   exact h3.2
theorem qcI {Q' : Exit → Act → World → Prop} : ∀ (l : List Oper) (k : Nat) (listed : Array Bool) (a : Act) (w : World), (∀ j, l[j]? = ops[k + j]?) →
 Region.seqB md ops l.length k listed = true → wpListIn F d P ops Q' l a w → wpAnyIn F d P md ops Q' l.length listed a w
 | [], _, _, _, _, _, hB, h => ⟨by simpa [Region.seqB] using hB, h⟩
 | o :: l, k, listed, a, w, hl, hB, h => by
  have h0 : ops[k]? = some o := by simpa using (hl 0).symm
  simp only [List.length_cons, Region.seqB, Bool.and_eq_true, decide_eq_true_eq] at hB
  refine ⟨fun h1 => (by rw [hB.1] at h1; cases h1), fun i hi => ?_⟩
  rw [hB.1] at hi
  have hik : i = k := by simpa using hi
  subst hik
  have hw : wpOpIn F d P ops Q' i (wpListIn F d P ops Q' l) a w := by unfold wpOpIn; simp only [h0]; exact h
  exact wpOpIn_mono (fun a' w' h' => qcI l (i + 1) _ a' w' (fun j => by have := hl (j + 1); simpa [Nat.add_assoc, Nat.add_comm 1 j] using this) hB.2 h') hw
theorem qdF {n g : Nat} {Lq : Act → Prop} (hsel : Region.noSelect ops = true) (hs : Region.sinkB md ops n = true) (hc : Region.chainB md ops n = true) (hn : n < ops.size) :
 ∀ (l : List Oper) (k : Nat) (listed : Array Bool) (a : Act), (∀ j, j < l.length → l[j]? = ops[k + j]?) → k + l.length = n → HeadInv md ops n listed →
 Region.lexHead md ops g l.length k listed = true → wpQuietIn F d P ops C Lq l a →
 qcr F d P md ops C n (fun listed' a' => Region.seqB md ops g n listed' = true ∧ Lq a') l.length listed a
 | [], k, listed, a, _, hk, _, hB, h => by
  have : k = n := by simpa using hk
  subst this
  exact ⟨by simpa [Region.lexHead] using hB, h⟩
 | o :: l, k, listed, a, hl, hk, inv, hB, h => by
  have h0 : ops[k]? = some o := by simpa using (hl 0 (by simp)).symm
  simp only [List.length_cons, Region.lexHead, Bool.and_eq_true] at hB
  obtain ⟨⟨hr, hf⟩, hB'⟩ := hB
  have hkn : k < n := by simp only [List.length_cons] at hk; omega
  have hr' : k ∈ Region.ready md ops listed := by simpa using hr
  have hst : qOpIn F d P ops C k (wpQuietIn F d P ops C Lq l) a := by unfold qOpIn; simp only [h0]; exact h
  obtain ⟨v, hy, hK⟩ := yieldsQuiet_of_qOpIn h0 hst
  exact qfa h0 (Region.noSelect_spec hsel) hs hc hn hkn (fun listed' a' hL => seqB_ready hL.1) l.length listed a inv (Region.free_spec h0 hf) hr' hy
   (qdF hsel hs hc hn l (k + 1) _ _ (fun j hj => by have := hl (j + 1) (by simp; omega); simpa [Nat.add_assoc, Nat.add_comm 1 j] using this) (by simp only [List.length_cons] at hk; omega) (inv.set hr' hkn) hB' hK)
theorem qbe {id : Nat} {Q : Exit → Act → World → Prop} {a : Act} {w : World} {l : List Oper} (n : Nat) (hro : F.round = none) (hm : P.follows .mixedOrders = true) (hB : Region.lexTailB .any l.toArray n = true)
 (h : wpQuietIn F d P l.toArray (fun w' => ∃ n, w' = w.drewN n) (fun a' => ∀ w', (∃ n, w' = w.drewN n) → wpListIn F d P l.toArray Q (l.drop n) a' w') (l.take n) a) : (Code.region id l.toArray true).wpIn F d P Q a w := by
 simp only [Region.lexTailB, Bool.and_eq_true, decide_eq_true_eq] at hB
 obtain ⟨⟨⟨⟨hsel, hn⟩, hs⟩, hc⟩, hlex⟩ := hB
 have hn' : n < l.length := by simpa using hn
 have htl : (l.take n).length = n := by simp; omega
 have hdl : (l.drop n).length = l.toArray.size - n := by simp
 have inv0 : HeadInv .any l.toArray n (Array.replicate l.toArray.size false) :=
  ⟨by simp, fun j oj _ hl => (by rw [getD_replicate_false] at hl; cases hl), fun t _ ht => getD_in (by simpa using ht) (getD_replicate_false _ _)⟩
 have H := qdF (md := .any) (g := l.toArray.size - n) hsel hs hc hn (l.take n) 0 _ a (fun j hj => by
  have hj' : j < n := by rw [htl] at hj; exact hj
  simp [hj']) (by simpa using htl) inv0 (by rw [htl]; exact hlex) h
 refine wpIn_region_any hm ?_
 have := qcz (Q' := Q) (g := l.toArray.size - n) hro (fun listed a' w' hw' hL => by
  have := qcI (md := .any) (Q' := Q) (l.drop n) n listed a' w' (fun j => by simp [List.getElem?_drop]) (by rw [hdl]; exact hL.1) (hL.2 w' hw')
  rwa [hdl] at this) _ _ _ ({ w with drawn := w.drawn + 1 }) ⟨1, rfl⟩ H
 rw [htl, show n + (l.toArray.size - n) = l.toArray.size by omega] at this
 exact this
end
end Go.Proofs.YtnpnfajgphpabaaGreat
namespace Go.Proofs.YtnpnfajgphpabaaGreat
set_option maxRecDepth 20000
open Go.RowKit Go.Shelf
theorem qeq : ∀ (k : Nat) (p q : Nm), k ≤ p.length → k ≤ q.length → (∀ i (h1 : i < p.length) (h2 : i < q.length), i < k → qac p[i] q[i] = 0) → cmpR p q = cmpR (p.drop k) (q.drop k)
 | 0, _, _ => by intro _ _ _; rfl
 | k + 1, [], _ => by intro h _ _; simp at h
 | k + 1, _ :: _, [] => by intro _ h _; simp at h
 | k + 1, x :: r, y :: t => by
  intro h1 h2 h
  have h0 : qac x y = 0 := h 0 (by simp) (by simp) (by omega)
  rw [cmpR, if_pos h0]
  exact qeq k r t (by simpa using h1) (by simpa using h2) (fun i a b c => h (i + 1) (by simpa using a) (by simpa using b) (by omega))
variable {xs ys : Nm}
theorem qfI {m : Nat} (hm : m ≤ xs.length) (_hy : xs.length ≤ m + ys.length) (h : ∀ j (h1 : j < xs.length) (h2 : xs.length ≤ j + ys.length), m ≤ j → qac xs[j] (ys[j + ys.length - xs.length]'(by omega)) = 0) :
 ∀ i (h1 : i < xs.reverse.length) (h2 : i < ys.reverse.length), i < xs.length - m → qac xs.reverse[i] ys.reverse[i] = 0 := by
 intro i h1 h2 hi
 simp only [List.length_reverse] at h1 h2
 have := h (xs.length - 1 - i) (by omega) (by omega) (by omega)
 simp only [List.getElem_reverse]
 have e : ys.length - 1 - i = xs.length - 1 - i + ys.length - xs.length := by omega
 simp only [e]
 exact this
theorem qda (h : ∀ j (h1 : j < xs.length) (h2 : xs.length ≤ j + ys.length), qac xs[j] (ys[j + ys.length - xs.length]'(by omega)) = 0) :
 qai xs ys = cmpI xs.length ys.length := by
 have e := qeq (xs.length - (xs.length - ys.length)) xs.reverse ys.reverse (by simp) (by simp; omega) (qfI (by omega) (by omega) (fun j h1 h2 _ => h j h1 h2))
 unfold qai; rw [e]
 rcases Nat.lt_trichotomy xs.length ys.length with hl | hl | hl
 ·have e1 : xs.reverse.drop (xs.length - (xs.length - ys.length)) = [] := List.drop_eq_nil_of_le (by simp; omega)
  rw [e1]
  have e2 : ys.reverse.drop (xs.length - (xs.length - ys.length)) ≠ [] := by intro q; have := congrArg List.length q; simp at this; omega
  cases hq : ys.reverse.drop (xs.length - (xs.length - ys.length)) with
  | nil => exact absurd hq e2
  | cons y t => unfold cmpI; rw [if_pos (by omega)]; rfl
 ·have e1 : xs.reverse.drop (xs.length - (xs.length - ys.length)) = [] := List.drop_eq_nil_of_le (by simp; omega)
  have e2 : ys.reverse.drop (xs.length - (xs.length - ys.length)) = [] := List.drop_eq_nil_of_le (by simp; omega)
  rw [e1, e2]; unfold cmpI; rw [if_neg (by omega), if_neg (by omega)]; rfl
 ·have e1 : ys.reverse.drop (xs.length - (xs.length - ys.length)) = [] := List.drop_eq_nil_of_le (by simp; omega)
  rw [e1]
  have e2 : xs.reverse.drop (xs.length - (xs.length - ys.length)) ≠ [] := by intro q; have := congrArg List.length q; simp at this; omega
  cases hq : xs.reverse.drop (xs.length - (xs.length - ys.length)) with
  | nil => exact absurd hq e2
  | cons y t => unfold cmpI; rw [if_neg (by omega), if_pos (by omega)]; rfl
theorem qgE {l : Nm} {x : Nat} (h : x < l.length) : ∃ t, l.reverse.drop (l.length - 1 - x) = l[x] :: t := by
 refine ⟨l.reverse.drop (l.length - 1 - x + 1), ?_⟩
 rw [List.drop_eq_getElem_cons (by simp; omega)]
 congr 1
 simp only [List.getElem_reverse]
 congr 1; omega
theorem qhv (x : Nat) (h1 : x < xs.length) (h2 : xs.length ≤ x + ys.length) (hne : qac xs[x] (ys[x + ys.length - xs.length]'(by omega)) ≠ 0)
 (h : ∀ j (h1 : j < xs.length) (h2 : xs.length ≤ j + ys.length), x < j → qac xs[j] (ys[j + ys.length - xs.length]'(by omega)) = 0) :
 qai xs ys = qac xs[x] (ys[x + ys.length - xs.length]'(by omega)) := by
 have e := qeq (xs.length - (x + 1)) xs.reverse ys.reverse (by simp) (by simp; omega) (qfI (by omega) (by omega) (fun j a b c => h j a b (by omega)))
 unfold qai; rw [e]
 obtain ⟨t, ht⟩ := qgE h1
 obtain ⟨r, hr⟩ := qgE (l := ys) (x := x + ys.length - xs.length) (by omega)
 rw [show xs.length - (x + 1) = xs.length - 1 - x by omega, ht, show xs.length - 1 - x = ys.length - 1 - (x + ys.length - xs.length) by omega, hr, cmpR, if_neg hne]
theorem qim {n : Nat} {p : List (Fin n)} {x : Fin n} (h : (p ++ [x]) <+: (List.finRange n).reverse) : p.length + x.val + 1 = n ∧ ∀ j : Fin n, x.val < j.val → j ∈ p := by
 have hl : p.length + 1 ≤ n := by have := h.length_le; simpa using this
 have hg : ∀ i (h1 : i < p.length + 1), (p ++ [x])[i]'(by simpa using h1) = ⟨n - 1 - i, by omega⟩ := fun i h1 => by
  have := h.getElem (i := i) (by simpa using h1)
  rw [this]; simp only [List.getElem_reverse, List.length_finRange, List.getElem_finRange]
  rfl
 have hx := hg p.length (by omega)
 simp only [List.getElem_concat_length] at hx
 have hxv : x.val = n - 1 - p.length := by rw [hx]
 refine ⟨by omega, fun j hj => ?_⟩
 have hlt : n - 1 - j.val < p.length := by have := j.isLt; omega
 have := hg (n - 1 - j.val) (by omega)
 rw [List.getElem_append_left hlt] at this
 have e : p[n - 1 - j.val] = j := by rw [this]; apply Fin.ext; simp; have := j.isLt; omega
 exact e ▸ List.getElem_mem hlt
def AlikeAt (xs ys : Nm) (j : Fin xs.length) : Prop := ∃ d, ∃ h : d < ys.length, j.val + ys.length = d + xs.length ∧ qac xs[j] ys[d] = 0
theorem AlikeAt.eq {j : Fin xs.length} (h : AlikeAt xs ys j) : xs.length ≤ j.val + ys.length ∧ ∀ h : j.val + ys.length - xs.length < ys.length, qac xs[j] ys[j.val + ys.length - xs.length] = 0 := by
 obtain ⟨d, hd, e, h0⟩ := h
 obtain rfl : d = j.val + ys.length - xs.length := by omega
 exact ⟨by omega, fun _ => h0⟩
end Go.Proofs.YtnpnfajgphpabaaGreat
namespace Go.Proofs.YtnpnfajgphpabaaGreat
set_option maxRecDepth 100000
set_option maxHeartbeats 4000000
open Go.RowKit Go.Shelf
section
attribute [local go_sem] Oper.semAt_some
theorem qdN (v u : Value) (xs ys : Nm) (w : World) (hA : StrsAt w v xs) (hU : StrsAt w u ys) (hk : NmOK xs) (hk2 : NmOK ys) :
 Calls Tryz.prog 38 #[v, u] w fun e w' => e = .returned (.int .i64 (qai xs ys)) ∧ Below w.heap.size w w' := by
 obtain ⟨a, c, rfl, _⟩ := id hA
 obtain ⟨a2, c2, rfl, _⟩ := id hU
 have hl1 := hk.1
 have hl2 := hk2.1
 refine (callsIn_wide (n := 5)).1 ?_
 refine callsIn_of_wp_marks Tryz.func38 rfl trivial ?_ rfl
 simp only [Tryz.ntmps38, List.size_toArray, List.length_cons, List.length_nil, Nat.reduceAdd, Nat.reduceSub, Array.replicate_succ, Array.replicate_zero, List.push_toArray, List.append_toArray, List.nil_append, List.cons_append]
 gi_wp2_with (refine ⟨trivial, ?_⟩; gi_at_call 70; refine (callsIn_wide.2 (qd6 _ _ _ _)).mono ?_; rintro e w' ⟨rfl, rfl⟩)
 obtain ⟨W0, hW0⟩ : ∃ W0, ((((w.alloc (.cells #[.slice a xs.length c] 23)).alloc (.cells #[.slice a2 ys.length c2] 23)).alloc (.cells #[.int .i64 0] 3)).alloc (.cells #[.slice a xs.length c] 23)) = W0 := ⟨_, rfl⟩
 have bA : Boxed W0 w.heap.size 23 (.slice a xs.length c) := by rw [← hW0]; exact (((Boxed.new w _ _).alloc _).alloc _).alloc _
 have bB : Boxed W0 (w.heap.size + 1) 23 (.slice a2 ys.length c2) := by
  have := Boxed.new (w.alloc (.cells #[.slice a xs.length c] 23)) 23 (.slice a2 ys.length c2)
  rw [World.size_alloc] at this
  rw [← hW0]; exact (this.alloc _).alloc _
 have bI : Boxed W0 (w.heap.size + 1 + 1) 3 (.int .i64 0) := by
  have := Boxed.new ((w.alloc (.cells #[.slice a xs.length c] 23)).alloc (.cells #[.slice a2 ys.length c2] 23)) 3 (.int .i64 0)
  rw [World.size_alloc, World.size_alloc] at this
  rw [← hW0]; exact this.alloc _
 have bV : Boxed W0 (w.heap.size + 1 + 1 + 1) 23 (.slice a xs.length c) := by
  have := Boxed.new (((w.alloc (.cells #[.slice a xs.length c] 23)).alloc (.cells #[.slice a2 ys.length c2] 23)).alloc (.cells #[.int .i64 0] 3)) 23 (.slice a xs.length c)
  rw [World.size_alloc, World.size_alloc, World.size_alloc] at this
  rw [← hW0]; exact this
 have hsz : W0.heap.size = w.heap.size + 4 := by rw [← hW0]; simp
 have hB0 : Below w.heap.size w W0 := by rw [← hW0]; exact ((((Below.refl _ w).alloc (qN0) _).alloc (by simp) _).alloc (by simp; omega) _).alloc (by simp; omega) _
 have hrow := hA.row_lt
 rw [hW0]
 have HZ := qH0 hsz; clear hsz hW0
 refine wpIn_rangeFunc_ownG rfl (by omega) (gf := 94) (lb := #[.pointer (some ⟨w.heap.size + 1 + 1 + 1, 0, none⟩)]) rfl trivial (enters_of Tryz.func94 (by kernel_rfl) rfl)
  (qdw _ (by omega) (w.heap.size + 1 + 1 + 1) (.slice a xs.length c) xs (by unfold maxLen; omega) W0 (by rw [HZ.out]; omega) bV.cell (hA.below hB0)) qfk (qa9 (by rw [HZ.out]; omega) (fun g e => by have := hrow g e; rw [HZ.out]; omega)) (qL0) (fun _ => rfl)
  (fun pre W => Boxed W w.heap.size 23 (.slice a xs.length c) ∧ Boxed W (w.heap.size + 1) 23 (.slice a2 ys.length c2) ∧ Boxed W (w.heap.size + 1 + 1) 3 (.int .i64 0) ∧ Below w.heap.size w W ∧ ∀ j ∈ pre, AlikeAt xs ys j)
  (fun k pre W => Boxed W w.heap.size 23 (.slice a xs.length c) ∧ Boxed W (w.heap.size + 1) 23 (.slice a2 ys.length c2) ∧ Below w.heap.size w W ∧ ∃ p x, pre = p ++ [x] ∧ (∀ j ∈ p, AlikeAt xs ys j) ∧
    ((k = .exit 0 ∧ ¬ xs.length ≤ x.val + ys.length ∧ Boxed W (w.heap.size + 1 + 1) 3 (.int .i64 0)) ∨ (k = .ret ∧ ∃ d, ∃ h : d < ys.length, x.val + ys.length = d + xs.length ∧ qac xs[x] ys[d] ≠ 0 ∧ Boxed W (w.heap.size + 1 + 1) 3 (.int .i64 (qac xs[x] ys[d])))))
  (OwnFrom.and (Own.from (boxed_own _ _ _) _) (OwnFrom.and (Own.from (boxed_own _ _ _) _) (OwnFrom.and (Own.from (boxed_own _ _ _) _) (OwnFrom.and (ownFrom_below (qN0) (by rw [HZ.out]; omega)) (ownFrom_pure _ _)))))
  ?hix
  ⟨bA, bB, bI, hB0, by simp⟩
  (fun j => { tmps := #[.slice a xs.length c, .slice a2 ys.length c2, .pointer (some ⟨w.heap.size, 0, none⟩), .pointer (some ⟨w.heap.size + 1, 0, none⟩), .pointer (some ⟨w.heap.size + 1 + 1, 0, none⟩), .int .i64 (j.val : Int), .string ⟨xs[j].toArray⟩, undef, undef, .slice a xs.length c, .func (.func 94) #[] #[.pointer (some ⟨w.heap.size + 1 + 1 + 1, 0, none⟩)], .int .i64 (j.val : Int), .string ⟨xs[j].toArray⟩, undef, undef, undef, undef, undef, undef, undef, undef, undef, undef, undef, undef, undef, undef, undef, undef, undef, undef, undef, undef, undef, undef, undef], defers := [] }) ?assign ?body ?done ?stop
 case hix =>
  intro k pre W W' row hs hg hr
  obtain ⟨h1, h2, h3, p, x, e, h4, h5⟩ := hs
  have hO : ∀ {B : Nat} {t : TypeId} {v : Value}, Boxed W B t v → Boxed W' B t v := fun hb => Own.from (boxed_own _ _ (fun _ : Unit => _)) _ () W W' row hb hg hr
  refine ⟨hO h1, hO h2, ownFrom_below (β := Unit) (qN0) (by rw [HZ.out]; omega) () W W' row h3 hg hr, p, x, e, h4, ?_⟩
  rcases h5 with ⟨a1, a2, a3⟩ | ⟨a1, d, h, a2, a3, a4⟩
  ·exact .inl ⟨a1, a2, hO a3⟩
  ·exact .inr ⟨a1, d, h, a2, a3, hO a4⟩
 case assign =>
  intro l x W K hK
  unfold idxV strV
  gi_wp2
  exact hK
 case body =>
  rintro l pre x W ⟨hN, hM, hI, hB, hC⟩ hlt
  have cn := hN.cell
  have cm := hM.cell
  have c0 := hI.cell; have f0 := hI.frozen
  have hxi : x.val < xs.length := x.isLt
  by_cases hge : xs.length ≤ x.val + ys.length
  ·obtain ⟨d, hd⟩ : ∃ d, x.val + ys.length = d + xs.length := ⟨x.val + ys.length - xs.length, by omega⟩
   have hdy : d < ys.length := by omega
   have hde : x.val + ys.length - xs.length = d := by omega
   obtain ⟨g, off, rfl, hg, hcell⟩ := hU.cell hB d hdy
   have hz1 : ys[d].length ≤ 1048576 := hk2.get d hdy
   have hx1 : xs[x].length ≤ 1048576 := hk.get x.val hxi
   obtain ⟨sx, hsx0, hsxz, hsxv⟩ := str_of xs[x]
   obtain ⟨sy, hsy0, hsyz, hsyv⟩ := str_of ys[d]
   have hS := fun W => qde sx sy W (by unfold maxLen; omega) (by unfold maxLen; omega)
   rw [hsx0, hsy0] at hS
   rw [str_at hsxv]
   rw [hsyv] at hcell
   have hsub : (x.val : Int) + (ys.length : Int) - (xs.length : Int) = (d : Int) := by omega
   generalize hq : qac xs[x] ys[d] = q at *
   have HQ := qH0 hq
   clear hsx0 hsxz hsxv hsy0 hsyz hsyv hx1 hz1 hq hde
   by_cases hq0 : (q != 0) = true
   ·have hn : q ≠ 0 := by simpa using hq0
    have HN := qH0 hn; clear hn
    gi_wp2_with (refine ⟨trivial, ?_⟩; gi_at_call 69; refine (CallsIn.inRound l (callsIn_wide.2 (hS _))).mono ?_; rintro e w' ⟨rfl, n, rfl⟩)
    refine ⟨((qaO _ _).trans (KeepsOthers.setCell _ _ _)).from _, hN.other (by omega) _, hM.other (by omega) _, (qaz hB _).setCell (p := ⟨w.heap.size + 1 + 1, 0, none⟩) (by simp; omega) _, pre, x, rfl, hC, .inr ⟨rfl, d, hdy, hd, by rw [HQ.out]; exact HN.out, ?_⟩⟩
    rw [HQ.out]; exact Boxed.set _ (show Boxed (W.drewN n) (w.heap.size + 1 + 1) 3 (.int .i64 0) from hI)
   ·have hn : (q != 0) = false := by simpa using hq0
    have hn0 : q = 0 := by simpa using hn
    have HN := qH0 hn0; clear hn0 hq0
    gi_wp2_with (refine ⟨trivial, ?_⟩; gi_at_call 69; refine (CallsIn.inRound l (callsIn_wide.2 (hS _))).mono ?_; rintro e w' ⟨rfl, n, rfl⟩)
    refine ⟨(qaO _ _).from _, KeepN.drewN _ _, hN, hM, hI, qaz hB _, ?_⟩
    intro j hj
    rcases List.mem_append.1 hj with hj | hj
    ·exact hC j hj
    ·obtain rfl := List.mem_singleton.1 hj; exact ⟨d, hdy, hd, by rw [HQ.out]; exact HN.out⟩
  ·have hneg : (x.val : Int) + (ys.length : Int) - (xs.length : Int) < 0 := by omega
   gi_wp2
   exact ⟨(KeepsOthers.refl _).from _, hN, hM, hB, pre, x, rfl, hC, .inl ⟨rfl, hge, hI⟩⟩
 case done =>
  rintro D zs W hD rfl ⟨hN, hM, hI, hB, hC⟩ hK
  have cn := hN.cell
  have cm := hM.cell
  have c0 := hI.cell; have f0 := hI.frozen
  have hDn : w.heap.size + 1 + 1 ≠ D := by have := HZ.out; omega
  have hE : qai xs ys = cmpI xs.length ys.length := qda (fun j h1 h2 => (hC ⟨j, h1⟩ (by simp)).eq.2 (by omega))
  have HE := qH0 hE; clear hE hC
  gi_wp2_with (refine ⟨trivial, ?_⟩; gi_at_call 39; refine (callsIn_wide.2 (qa8 _ _ _)).mono ?_; rintro e w' ⟨rfl, rfl⟩)
  refine ⟨by simp, .inl ⟨_, _, rfl, run_takeDeferred (qaw hK hDn.symm _), ?_⟩⟩
  refine ⟨_, qaC rfl Tryz.underlying3 _ _ rfl (qaq (hI.set _) hDn _), by rw [HE.out], ?_⟩
  exact qal (hB.setCell (p := ⟨w.heap.size + 1 + 1, 0, none⟩) (by simp; omega) _) (by have := HZ.out; omega) (qN0)
 case stop =>
  rintro D k pre W hD hp ⟨hN, hM, hB, p, x, rfl, hp0, hor⟩ hK
  have cn := hN.cell
  have cm := hM.cell
  have hDn : w.heap.size + 1 + 1 ≠ D := by have := HZ.out; omega
  obtain ⟨_, hall⟩ := qim hp
  rcases hor with ⟨rfl, hx, hI⟩ | ⟨rfl, d, hd, he, hne, hI⟩
  ·have c0 := hI.cell; have f0 := hI.frozen
   have hE : qai xs ys = cmpI xs.length ys.length := qda (fun j h1 h2 => (hp0 ⟨j, h1⟩ (hall _ (by show x.val < j; omega))).eq.2 (by omega))
   have HE := qH0 hE; clear hE hall hp0 hx
   gi_wp2_with (refine ⟨trivial, ?_⟩; gi_at_call 39; refine (callsIn_wide.2 (qa8 _ _ _)).mono ?_; rintro e w' ⟨rfl, rfl⟩)
   refine ⟨by simp, .inl ⟨_, _, rfl, run_takeDeferred (qaw hK hDn.symm _), ?_⟩⟩
   refine ⟨_, qaC rfl Tryz.underlying3 _ _ rfl (qaq (hI.set _) hDn _), by rw [HE.out], ?_⟩
   exact qal (hB.setCell (p := ⟨w.heap.size + 1 + 1, 0, none⟩) (by simp; omega) _) (by have := HZ.out; omega) (qN0)
  ·have c0 := hI.cell; have f0 := hI.frozen
   have hE : qai xs ys = qac xs[x] ys[d] := by
    obtain rfl : d = x.val + ys.length - xs.length := by omega
    exact qhv x.val x.isLt (by omega) hne (fun j h1 h2 h3 => (hp0 ⟨j, h1⟩ (hall _ h3)).eq.2 (by omega))
   have HE := qH0 hE; clear hE hall hp0
   gi_wp2
   refine ⟨by simp, .inl ⟨_, _, rfl, run_takeDeferred hK, ?_⟩⟩
   refine ⟨_, qaC rfl Tryz.underlying3 _ _ rfl (qaq hI hDn _), by rw [HE.out], ?_⟩
   exact qal hB (by have := HZ.out; omega) (qN0)
end
end Go.Proofs.YtnpnfajgphpabaaGreat
