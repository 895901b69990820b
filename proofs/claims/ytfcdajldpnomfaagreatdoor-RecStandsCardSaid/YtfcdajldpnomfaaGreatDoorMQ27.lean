/-
  Plain facts of a stable sort by merging in place: elements with a place of their own (tg), an order cf.
-/
import Derived.Sort.LotA
import Derived.Test.YtfcdajldpnomfaaGreatDoorMQ39
import Derived.Test.YtfcdajldpnomfaaGreatDoorMQ24
import Derived.Lib.ItoaNum
import Derived.Lib.ItoaMem
namespace Go.Proofs.YtfcdajldpnomfaaGreatDoor.Stb
open Go.Sort
set_option linter.unusedSectionVars false
variable {α : Type} [Inhabited α]

structure COrd (cf : α → α → Int) : Prop where
  anti : ∀ x y, cf y x = - cf x y
  trans : ∀ x y z, cf x y ≤ 0 → cf y z ≤ 0 → cf x z ≤ 0

def Lx (cf : α → α → Int) (tg : α → Nat) (x y : α) : Prop := cf x y < 0 ∨ (cf x y = 0 ∧ tg x < tg y)

section
variable {cf : α → α → Int} {tg : α → Nat}
omit [Inhabited α] in
theorem Lx.trans (h : COrd cf) {x y z : α} (h1 : Lx cf tg x y) (h2 : Lx cf tg y z) : Lx cf tg x z := by
  have a1 := h.anti x y; have a2 := h.anti y z; have a3 := h.anti x z
  have t1 := h.trans x y z; have t2 := h.trans z x y; have t3 := h.trans y z x
  unfold Lx at *
  rcases h1 with h1 | ⟨h1, g1⟩ <;> rcases h2 with h2 | ⟨h2, g2⟩ <;> omega
omit [Inhabited α] in
theorem Lx.irrefl (h : COrd cf) (x : α) : ¬ Lx cf tg x x := by
  have := h.anti x x
  unfold Lx; omega
omit [Inhabited α] in
theorem Lx.of_not (h : COrd cf) {x y : α} (ht : tg x < tg y) (hn : ¬ cf y x < 0) : Lx cf tg x y := by
  have := h.anti x y
  unfold Lx; omega
omit [Inhabited α] in
theorem Lx.of_lt {x y : α} (hn : cf y x < 0) : Lx cf tg y x := Or.inl hn

def Rise (cf : α → α → Int) (tg : α → Nat) (a b : Nat) (d : Array α) : Prop := ∀ i j, a ≤ i → i < j → j < b → Lx cf tg d[i]! d[j]!

theorem Rise.congr {a b : Nat} {d d' : Array α} (h : Rise cf tg a b d) (he : ∀ x, a ≤ x → x < b → d'[x]! = d[x]!) : Rise cf tg a b d' := fun i j h1 h2 h3 => by
  rw [he i h1 (by omega), he j (by omega) h3]; exact h i j h1 h2 h3
theorem Rise.sub {a b a' b' : Nat} {d : Array α} (h : Rise cf tg a b d) (h1 : a ≤ a') (h2 : b' ≤ b) : Rise cf tg a' b' d := fun i j g1 g2 g3 => h i j (by omega) g2 (by omega)
/-- Rising ahead of a place and behind it, and across. -/
theorem Rise.join {a m b : Nat} {d : Array α} (h1 : Rise cf tg a m d) (h2 : Rise cf tg m b d) (h3 : ∀ i j, a ≤ i → i < m → m ≤ j → j < b → Lx cf tg d[i]! d[j]!) : Rise cf tg a b d := fun i j g1 g2 g3 => by
  by_cases hj : j < m
  · exact h1 i j g1 g2 hj
  · by_cases hi : i < m
    · exact h3 i j g1 hi (by omega) g3
    · exact h2 i j (by omega) g2 g3

/-! swapRange -/
def swr (a b n : Nat) (f : Nat → α) (x : Nat) : α := if a ≤ x ∧ x < a + n then f (x + (b - a)) else if b ≤ x ∧ x < b + n then f (x - (b - a)) else f x
theorem swr_zero (a b : Nat) (f : Nat → α) (x : Nat) : swr a b 0 f x = f x := by
  unfold swr; rw [if_neg (by omega), if_neg (by omega)]
theorem swr_step {a b n : Nat} {d dk : Array α} (hab : a + n < b) (hb : b + n < d.size) (hs : dk.size = d.size) (h : ∀ x, x < d.size → dk[x]! = swr a b n (fun i => d[i]!) x) :
    ∀ x, x < d.size → (swp dk (a + n) (b + n))[x]! = swr a b (n + 1) (fun i => d[i]!) x := by
  intro x hx
  rw [swp_get dk (by omega) (by omega), h (a + n) (by omega), h (b + n) hb, h x hx]
  unfold swr
  (try dsimp only)
  repeat' split
  all_goals first | (exfalso; omega) | rfl | (congr 1; omega)

/-! rotate -/
def rot (a m b : Nat) (f : Nat → α) (x : Nat) : α := if a ≤ x ∧ x < a + (b - m) then f (x + (m - a)) else if a + (b - m) ≤ x ∧ x < b then f (x - (b - m)) else f x
theorem rot_gt {m i j : Nat} (f : Nat → α) (hm : i ≤ m) (hij : j < i) (x : Nat) : rot (m - (i - j)) m (m + j) (swr (m - i) m j f) x = rot (m - i) m (m + j) f x := by
  unfold rot swr
  (try dsimp only)
  repeat' split
  all_goals first | (exfalso; omega) | rfl | (congr 1; omega)
theorem rot_lt {m i j : Nat} (f : Nat → α) (hm : i ≤ m) (hij : i < j) (x : Nat) : rot (m - i) m (m + (j - i)) (swr (m - i) (m + j - i) i f) x = rot (m - i) m (m + j) f x := by
  unfold rot swr
  (try dsimp only)
  repeat' split
  all_goals first | (exfalso; omega) | rfl | (congr 1; omega)
theorem rot_eq {m i : Nat} (f : Nat → α) (hm : i ≤ m) (x : Nat) : swr (m - i) m i f x = rot (m - i) m (m + i) f x := by
  unfold rot swr
  repeat' split
  all_goals first | (exfalso; omega) | rfl | (congr 1; omega)
theorem rot_congr {a m b n : Nat} {f g : Nat → α} (hm : a ≤ m) (hmb : m ≤ b) (hb : b ≤ n) (h : ∀ x, x < n → f x = g x) (x : Nat) (hx : x < n) : rot a m b f x = rot a m b g x := by
  unfold rot
  repeat' split
  all_goals exact h _ (by omega)
theorem rot_left {m b : Nat} (f : Nat → α) (x : Nat) : rot m m b f x = f x := by
  unfold rot
  repeat' split
  all_goals first | (exfalso; omega) | rfl | (congr 1; omega)
theorem rot_right {a m : Nat} (f : Nat → α) (x : Nat) : rot a m m f x = f x := by
  unfold rot
  repeat' split
  all_goals first | (exfalso; omega) | rfl | (congr 1; omega)

/-! The two shifts. -/
def shu (a k : Nat) (f : Nat → α) (x : Nat) : α := if a ≤ x ∧ x < k then f (x + 1) else if x = k then f a else f x
theorem shu_zero (a : Nat) (f : Nat → α) (x : Nat) : shu a a f x = f x := by
  unfold shu
  repeat' split
  all_goals first | (exfalso; omega) | rfl | (congr 1; omega)
theorem shu_step {a k : Nat} {d dk : Array α} (hak : a ≤ k) (hk : k + 1 < d.size) (hs : dk.size = d.size) (h : ∀ x, x < d.size → dk[x]! = shu a k (fun i => d[i]!) x) :
    ∀ x, x < d.size → (swp dk k (k + 1))[x]! = shu a (k + 1) (fun i => d[i]!) x := by
  intro x hx
  rw [swp_get dk (by omega) (by omega), h k (by omega), h (k + 1) hk, h x hx]
  unfold shu
  (try dsimp only)
  repeat' split
  all_goals first | (exfalso; omega) | rfl | (congr 1; omega)
def shd (k m : Nat) (f : Nat → α) (x : Nat) : α := if k < x ∧ x ≤ m then f (x - 1) else if x = k then f m else f x
theorem shd_zero (m : Nat) (f : Nat → α) (x : Nat) : shd m m f x = f x := by
  unfold shd
  repeat' split
  all_goals first | (exfalso; omega) | rfl | (congr 1; omega)
theorem shd_step {k m : Nat} {d dk : Array α} (hkm : k + 1 ≤ m) (hm : m < d.size) (hs : dk.size = d.size) (h : ∀ x, x < d.size → dk[x]! = shd (k + 1) m (fun i => d[i]!) x) :
    ∀ x, x < d.size → (swp dk (k + 1) k)[x]! = shd k m (fun i => d[i]!) x := by
  intro x hx
  rw [swp_get dk (by omega) (by omega), h k (by omega), h (k + 1) (by omega), h x hx]
  unfold shd
  (try dsimp only)
  repeat' split
  all_goals first | (exfalso; omega) | rfl | (congr 1; omega)

/-! What merging is asked, and what it owes. -/
structure Mrg (cf : α → α → Int) (tg : α → Nat) (a m b : Nat) (d : Array α) : Prop where
  am : a < m
  mb : m < b
  bs : b ≤ d.size
  l : Rise cf tg a m d
  r : Rise cf tg m b d
  x : ∀ i j, a ≤ i → i < m → m ≤ j → j < b → tg d[i]! < tg d[j]!

/-- One element ahead: put where the search says. -/
theorem Mrg.one (hO : COrd cf) {a b i : Nat} {d d' : Array α} (h : Mrg cf tg a (a + 1) b d) (hi : a + 1 ≤ i) (hib : i ≤ b)
    (h1 : i = a + 1 ∨ cf d[i - 1]! d[a]! < 0) (h2 : i = b ∨ ¬ cf d[i]! d[a]! < 0) (hd : ∀ x, x < d.size → d'[x]! = shu a (i - 1) (fun k => d[k]!) x) : Rise cf tg a b d' := by
  have hb := h.bs
  have lo : ∀ k, a + 1 ≤ k → k < i → Lx cf tg d[k]! d[a]! := fun k g1 g2 => by
    rcases h1 with h1 | h1
    · omega
    · by_cases e : k = i - 1
      · subst e; exact Or.inl h1
      · exact (h.r k (i - 1) g1 (by omega) (by omega)).trans hO (Or.inl h1)
  have hi' : ∀ k, i ≤ k → k < b → Lx cf tg d[a]! d[k]! := fun k g1 g2 => by
    rcases h2 with h2 | h2
    · omega
    · have hx : Lx cf tg d[a]! d[i]! := Lx.of_not hO (h.x a i (Nat.le_refl _) (by omega) (by omega) (by omega)) h2
      by_cases e : k = i
      · subst e; exact hx
      · exact hx.trans hO (h.r i k (by omega) (by omega) g2)
  intro p q g1 g2 g3
  rw [hd p (by omega), hd q (by omega)]
  unfold shu
  (try dsimp only)
  repeat' split
  all_goals first
    | (exfalso; omega)
    | exact h.r _ _ (by omega) (by omega) (by omega)
    | exact lo _ (by omega) (by omega)
    | exact hi' _ (by omega) (by omega)

/-- One element behind: put where the search says. -/
theorem Mrg.last (hO : COrd cf) {a m i : Nat} {d d' : Array α} (h : Mrg cf tg a m (m + 1) d) (hi : a ≤ i) (hib : i ≤ m)
    (h1 : i = a ∨ ¬ cf d[m]! d[i - 1]! < 0) (h2 : i = m ∨ cf d[m]! d[i]! < 0) (hd : ∀ x, x < d.size → d'[x]! = shd i m (fun k => d[k]!) x) : Rise cf tg a (m + 1) d' := by
  have hb := h.bs
  have hm := h.am
  have lo : ∀ k, a ≤ k → k < i → Lx cf tg d[k]! d[m]! := fun k g1 g2 => by
    rcases h1 with h1 | h1
    · omega
    · have hx : Lx cf tg d[i - 1]! d[m]! := Lx.of_not hO (h.x (i - 1) m (by omega) (by omega) (Nat.le_refl _) (by omega)) h1
      by_cases e : k = i - 1
      · subst e; exact hx
      · exact (h.l k (i - 1) g1 (by omega) (by omega)).trans hO hx
  have hi' : ∀ k, i ≤ k → k < m → Lx cf tg d[m]! d[k]! := fun k g1 g2 => by
    rcases h2 with h2 | h2
    · omega
    · by_cases e : k = i
      · subst e; exact Or.inl h2
      · exact Lx.trans hO (Or.inl h2) (h.l i k (by omega) (by omega) g2)
  intro p q g1 g2 g3
  rw [hd p (by omega), hd q (by omega)]
  unfold shd
  (try dsimp only)
  repeat' split
  all_goals first
    | (exfalso; omega)
    | exact h.l _ _ (by omega) (by omega) (by omega)
    | exact lo _ (by omega) (by omega)
    | exact hi' _ (by omega) (by omega)

/-- The middle that is found. -/
structure Cutp (cf : α → α → Int) (a m b mid s : Nat) (d : Array α) : Prop where
  lo : a ≤ s
  hi : s ≤ mid
  sm : s ≤ m
  e : mid + m - s ≤ b
  p1 : s = a ∨ mid + m - s = b ∨ ¬ cf d[mid + m - s]! d[s - 1]! < 0
  p2 : s = m ∨ s = mid ∨ cf d[mid + m - s - 1]! d[s]! < 0

/-- Behind the turn each half is one merging more, and the one half is ahead of the other. -/
theorem Mrg.turned (hO : COrd cf) {a m b mid s : Nat} {d d' : Array α} (h : Mrg cf tg a m b d) (c : Cutp cf a m b mid s d) (ham : a < mid) (hmb : mid < b)
    (hs : d'.size = d.size) (hd : ∀ x, x < d.size → d'[x]! = rot s m (mid + m - s) (fun k => d[k]!) x) :
    (a < s → s < mid → Mrg cf tg a s mid d') ∧ (¬ (a < s ∧ s < mid) → Rise cf tg a mid d') ∧ (mid < mid + m - s → mid + m - s < b → Mrg cf tg mid (mid + m - s) b d') ∧ (¬ (mid < mid + m - s ∧ mid + m - s < b) → Rise cf tg mid b d') ∧
    (∀ i j, a ≤ i → i < mid → mid ≤ j → j < b → Lx cf tg d'[i]! d'[j]!) := by
  have hb := h.bs
  have am := h.am
  have mb := h.mb
  obtain ⟨lo, hi, sm, e, p1, p2⟩ := c
  have g : ∀ x, x < b → d'[x]! = if s ≤ x ∧ x < mid then d[x + (m - s)]! else if mid ≤ x ∧ x < mid + m - s then d[x - (mid - s)]! else d[x]! := fun x hx => by
    rw [hd x (by omega)]
    unfold rot
    (try dsimp only)
    repeat' split
    all_goals first | (exfalso; omega) | rfl | (congr 1; omega)
  have A1 : Rise cf tg a s d' := h.l.sub (Nat.le_refl _) sm |>.congr fun x h1 h2 => by rw [g x (by omega), if_neg (by omega), if_neg (by omega)]
  have A2 : Rise cf tg s mid d' := fun i j h1 h2 h3 => by
    rw [g i (by omega), g j (by omega), if_pos (by omega), if_pos (by omega)]
    exact h.r _ _ (by omega) (by omega) (by omega)
  have B1 : Rise cf tg mid (mid + m - s) d' := fun i j h1 h2 h3 => by
    rw [g i (by omega), g j (by omega), if_neg (by omega), if_pos (by omega), if_neg (by omega), if_pos (by omega)]
    exact h.l _ _ (by omega) (by omega) (by omega)
  have B2 : Rise cf tg (mid + m - s) b d' := fun i j h1 h2 h3 => by
    rw [g i (by omega), g j (by omega), if_neg (by omega), if_neg (by omega), if_neg (by omega), if_neg (by omega)]
    exact h.r _ _ (by omega) (by omega) (by omega)
  refine ⟨fun k1 k2 => ⟨k1, k2, by omega, A1, A2, fun i j h1 h2 h3 h4 => ?_⟩, fun hn => ?_, fun k1 k2 => ⟨k1, k2, by omega, B1, B2, fun i j h1 h2 h3 h4 => ?_⟩, fun hn => ?_, fun i j h1 h2 h3 h4 => ?_⟩
  · rw [g i (by omega), g j (by omega), if_neg (by omega), if_neg (by omega), if_pos (by omega)]
    exact h.x _ _ (by omega) (by omega) (by omega) (by omega)
  · by_cases hsa : s = a
    · exact hsa ▸ A2
    · have : s = mid := by omega
      exact this ▸ A1
  · rw [g i (by omega), g j (by omega), if_neg (by omega), if_pos (by omega), if_neg (by omega), if_neg (by omega)]
    exact h.x _ _ (by omega) (by omega) (by omega) (by omega)
  · by_cases hsa : s = m
    · have : mid + m - s = mid := by omega
      exact this ▸ B2
    · have : mid + m - s = b := by omega
      exact this ▸ B1
  · rw [g i (by omega), g j (by omega)]
    -- of the four pairs
    have X1 : ∀ u v, a ≤ u → u < s → mid + m - s ≤ v → v < b → Lx cf tg d[u]! d[v]! := fun u v q1 q2 q3 q4 => by
      rcases p1 with p1 | p1 | p1
      · omega
      · omega
      · have hx : Lx cf tg d[s - 1]! d[mid + m - s]! := Lx.of_not hO (h.x _ _ (by omega) (by omega) (by omega) (by omega)) p1
        have h5 : Lx cf tg d[u]! d[mid + m - s]! := by
          by_cases e : u = s - 1
          · subst e; exact hx
          · exact (h.l u (s - 1) q1 (by omega) (by omega)).trans hO hx
        by_cases e : v = mid + m - s
        · subst e; exact h5
        · exact h5.trans hO (h.r _ v (by omega) (by omega) q4)
    have X2 : ∀ u v, m ≤ u → u < mid + m - s → s ≤ v → v < m → Lx cf tg d[u]! d[v]! := fun u v q1 q2 q3 q4 => by
      rcases p2 with p2 | p2 | p2
      · omega
      · omega
      · have h5 : Lx cf tg d[u]! d[s]! := by
          by_cases e : u = mid + m - s - 1
          · subst e; exact Or.inl p2
          · exact (h.r u (mid + m - s - 1) q1 (by omega) (by omega)).trans hO (Or.inl p2)
        by_cases e : v = s
        · subst e; exact h5
        · exact h5.trans hO (h.l s v (by omega) (by omega) q4)
    repeat' split
    all_goals first
      | (exfalso; omega)
      | exact X1 _ _ (by omega) (by omega) (by omega) (by omega)
      | exact X2 _ _ (by omega) (by omega) (by omega) (by omega)
      | exact h.l _ _ (by omega) (by omega) (by omega)
      | exact h.r _ _ (by omega) (by omega) (by omega)

/-- .. and behind both mergings all rises. -/
theorem rise_both (a mid b : Nat) {d1 d2 d3 : Array α} (hmb : mid ≤ b) (hb : b ≤ d1.size) (hx : ∀ i j, a ≤ i → i < mid → mid ≤ j → j < b → Lx cf tg d1[i]! d1[j]!)
    (h1 : PermIn a mid d1 d2) (r1 : Rise cf tg a mid d2) (h2 : PermIn mid b d2 d3) (r2 : Rise cf tg mid b d3) : Rise cf tg a b d3 := by
  have k1 : ∀ i, a ≤ i → i < mid → ∀ j, mid ≤ j → j < b → Lx cf tg d2[i]! d1[j]! := permIn_all d1 d2 a mid (fun x => ∀ j, mid ≤ j → j < b → Lx cf tg x d1[j]!) (by omega) h1 (fun i q1 q2 j q3 q4 => hx i j q1 q2 q3 q4)
  have k2 : ∀ j, mid ≤ j → j < b → ∀ i, a ≤ i → i < mid → Lx cf tg d2[i]! d3[j]! := permIn_all d2 d3 mid b (fun y => ∀ i, a ≤ i → i < mid → Lx cf tg d2[i]! y) (by rw [h1.1]; omega) h2 (fun j q1 q2 i q3 q4 => by rw [h1.2.1 j (Or.inr q1)]; exact k1 i q3 q4 j q1 q2)
  refine Rise.join (r1.congr fun x q1 q2 => h2.2.1 x (Or.inl q2)) r2 fun i j q1 q2 q3 q4 => ?_
  rw [h2.2.1 i (Or.inl q2)]
  exact k2 j q3 q4 i q1 q2
end
end Go.Proofs.YtfcdajldpnomfaaGreatDoor.Stb

/-
  The stable sort, block by block: what its loops keep.
-/
namespace Go.Proofs.YtfcdajldpnomfaaGreatDoor.Stb
open Go.Sort
set_option linter.unusedSectionVars false
variable {α : Type} [Inhabited α] {cf : α → α → Int} {tg : α → Nat}

def lb (cf : α → α → Int) (x y : α) : Bool := decide (cf x y < 0)

structure InsR (cf : α → α → Int) (tg : α → Nat) (a j i : Nat) (d : Array α) : Prop where
  rest : ∀ p q, a ≤ p → p < q → q ≤ i → p ≠ j → q ≠ j → Lx cf tg d[p]! d[q]!
  right : ∀ q, j < q → q ≤ i → Lx cf tg d[j]! d[q]!
  most : ∀ q, a ≤ q → q ≤ i → q ≠ j → tg d[q]! < tg d[j]!

theorem InsR.stop (hO : COrd cf) {a j i : Nat} {d : Array α} (h : InsR cf tg a j i d) (haj : a ≤ j) (hji : j ≤ i) (hs : j ≤ a ∨ lb cf d[j]! d[j - 1]! = false) : Rise cf tg a (i + 1) d := by
  have hl : ∀ p, a ≤ p → p < j → Lx cf tg d[p]! d[j]! := fun p h1 h2 => by
    rcases hs with hs | hs
    · omega
    · have hx : Lx cf tg d[j - 1]! d[j]! := Lx.of_not hO (h.most _ (by omega) (by omega) (by omega)) (by simpa [lb] using hs)
      by_cases e : p = j - 1
      · subst e; exact hx
      · exact (h.rest p (j - 1) h1 (by omega) (by omega) (by omega) (by omega)).trans hO hx
  intro p q hap hpq hqi
  by_cases hq : q = j
  · subst hq; exact hl p hap hpq
  · by_cases hp : p = j
    · subst hp; exact h.right q hpq (by omega)
    · exact h.rest p q hap hpq (by omega) hp hq

theorem InsR.step {a j i : Nat} {d : Array α} (h : InsR cf tg a (j + 1) i d) (hl : lb cf d[j + 1]! d[j]! = true) (haj : a ≤ j) (hji : j + 1 ≤ i) (hsz : j + 1 < d.size) : InsR cf tg a j i (swp d (j + 1) j) := by
  have g := swp_get d hsz (show j < d.size by omega)
  have hl' : cf d[j + 1]! d[j]! < 0 := by simpa [lb] using hl
  refine ⟨fun p q hap hpq hqi hp hq => ?_, fun q hjq hqi => ?_, fun q haq hqi hq => ?_⟩
  · rw [g, g]
    repeat' split
    all_goals first
      | (exfalso; omega)
      | exact h.rest _ _ (by omega) (by omega) (by omega) (by omega) (by omega)
  · rw [g, g, if_pos rfl]
    repeat' split
    all_goals first
      | (exfalso; omega)
      | exact Or.inl hl'
      | exact h.right _ (by omega) (by omega)
  · rw [g, g, if_pos rfl]
    repeat' split
    all_goals first
      | (exfalso; omega)
      | exact h.most _ (by omega) (by omega) (by omega)

theorem insInner_rise (hO : COrd cf) (a i : Nat) : ∀ (j : Nat) (d : Array α), a ≤ j → j ≤ i → i + 1 ≤ d.size → InsR cf tg a j i d →
    PermIn a (i + 1) d (insInner (lb cf) a j d) ∧ Rise cf tg a (i + 1) (insInner (lb cf) a j d)
  | 0, d, h1, h2, _, hI => by
    unfold insInner
    exact ⟨permIn_refl d a _, hI.stop hO h1 h2 (Or.inl (Nat.zero_le _))⟩
  | j + 1, d, haj, hji, hb, hI => by
    unfold insInner
    split
    · rename_i hc
      simp only [Bool.and_eq_true, decide_eq_true_eq] at hc
      have ih := insInner_rise hO a i j (swp d (j + 1) j) (by omega) (by omega) (by rw [swp_size]; exact hb) (hI.step hc.2 (by omega) hji (by omega))
      exact ⟨permIn_trans _ _ _ a (i + 1) (swp_permIn d a (i + 1) (j + 1) j haj (by omega) (by omega) (by omega) hb) ih.1, ih.2⟩
    · rename_i hc
      simp only [Bool.and_eq_true, decide_eq_true_eq, not_and, Bool.not_eq_true] at hc
      refine ⟨permIn_refl d a _, hI.stop hO haj hji ?_⟩
      by_cases h : j + 1 > a
      · exact Or.inr (by simpa using hc h)
      · exact Or.inl (by omega)

theorem insOuter_rise (hO : COrd cf) (a b : Nat) : ∀ (n i : Nat) (d : Array α), b - i = n → a < i → i ≤ b → b ≤ d.size → Rise cf tg a i d → (∀ p q, a ≤ p → p < q → i ≤ q → q < b → tg d[p]! < tg d[q]!) →
    PermIn a b d (insOuter (lb cf) a b i d) ∧ Rise cf tg a b (insOuter (lb cf) a b i d)
  | 0, i, d, hn, _, hib, _, hs, _ => by
    obtain rfl : i = b := by omega
    rw [insOuter, if_neg (by omega)]
    exact ⟨permIn_refl d a i, hs⟩
  | n + 1, i, d, hn, hai, hib, hb, hs, ht => by
    have hlt : i < b := by omega
    rw [insOuter, if_pos hlt]
    have h1 := insInner_rise hO a i i d (by omega) (Nat.le_refl _) (by omega) ⟨fun p q hap hpq hqi _ hq => hs p q hap hpq (by omega), fun q h1 h2 => by omega, fun q h1 h2 h3 => ht q i h1 (by omega) (Nat.le_refl _) hlt⟩
    have hp := h1.1
    have ht2 : ∀ p q, a ≤ p → p < q → i + 1 ≤ q → q < b → tg (insInner (lb cf) a i d)[p]! < tg (insInner (lb cf) a i d)[q]! := fun p q g1 g2 g3 g4 => by
      rw [hp.2.1 q (Or.inr g3)]
      by_cases hpi : p < i + 1
      · exact permIn_all d _ a (i + 1) (fun x => tg x < tg d[q]!) (by omega) hp (fun k k1 k2 => ht k q k1 (by omega) (by omega) g4) p g1 hpi
      · rw [hp.2.1 p (Or.inr (by omega))]; exact ht p q g1 g2 (by omega) g4
    have h2 := insOuter_rise hO a b n (i + 1) (insInner (lb cf) a i d) (by omega) (by omega) (by omega) (by rw [hp.1]; exact hb) h1.2 ht2
    exact ⟨permIn_trans _ _ _ a b (permIn_mono _ _ a (i + 1) a b (Nat.le_refl _) (by omega) hb hp) h2.1, h2.2⟩

theorem insertion_rise (hO : COrd cf) (d : Array α) (a b : Nat) (hab : a ≤ b) (hb : b ≤ d.size) (ht : ∀ p q, a ≤ p → p < q → q < b → tg d[p]! < tg d[q]!) :
    PermIn a b d (insertionSort (lb cf) d a b) ∧ Rise cf tg a b (insertionSort (lb cf) d a b) := by
  unfold insertionSort
  by_cases h : a = b
  · subst h
    rw [insOuter, if_neg (by omega)]
    exact ⟨permIn_refl d a a, fun i j h1 h2 h3 => by omega⟩
  · exact insOuter_rise hO a b (b - (a + 1)) (a + 1) d rfl (by omega) (by omega) hb (fun i j h1 h2 h3 => by omega) (fun p q h1 h2 h3 h4 => ht p q h1 h2 h4)

/-! Blocks. -/
/-- Blocks of so many: each rises, each has its own. -/
structure Blk (cf : α → α → Int) (tg : α → Nat) (s : Nat) (d : Array α) : Prop where
  own : ∀ q i, q * s ≤ i → i < q * s + s → i < d.size → q * s ≤ tg d[i]! ∧ tg d[i]! < q * s + s
  up : ∀ q i j, q * s ≤ i → i < j → j < q * s + s → j < d.size → Lx cf tg d[i]! d[j]!
/-- Up to a: blocks of so many; from there on as it came. -/
structure Blk0 (cf : α → α → Int) (tg : α → Nat) (s a : Nat) (d : Array α) : Prop where
  own : ∀ q i, q * s ≤ i → i < q * s + s → i < a → q * s ≤ tg d[i]! ∧ tg d[i]! < q * s + s
  up : ∀ q i j, q * s ≤ i → i < j → j < q * s + s → j < a → Lx cf tg d[i]! d[j]!
  rest : ∀ i, a ≤ i → i < d.size → tg d[i]! = i
theorem Blk0.start {s : Nat} {d : Array α} (h : ∀ i, i < d.size → tg d[i]! = i) : Blk0 cf tg s 0 d := ⟨fun q i h1 h2 h3 => by omega, fun q i j h1 h2 h3 h4 => by omega, fun i _ h1 => h i h1⟩
theorem blk_lt {q r s : Nat} (h : q < r) : q * s + s ≤ r * s := by
  have := Nat.mul_le_mul_right s (show q + 1 ≤ r from h); rwa [Nat.succ_mul] at this
theorem Blk0.tags {s a e : Nat} {d : Array α} (h : Blk0 cf tg s a d) (he : e ≤ d.size) : ∀ p q, a ≤ p → p < q → q < e → tg d[p]! < tg d[q]! := fun p q h1 h2 h3 => by
  rw [h.rest p h1 (by omega), h.rest q (by omega) (by omega)]; exact h2
/-- One block more. -/
theorem Blk0.next {s r e : Nat} {d d' : Array α} (h : Blk0 cf tg s (r * s) d) (he : e ≤ d.size) (hae : r * s ≤ e) (hes : e ≤ r * s + s) (hp : PermIn (r * s) e d d') (hr : Rise cf tg (r * s) e d') : Blk0 cf tg s e d' := by
  have lo : ∀ i, i < r * s → d'[i]! = d[i]! := fun i hi => hp.2.1 i (Or.inl hi)
  have mid : ∀ i, r * s ≤ i → i < e → r * s ≤ tg d'[i]! ∧ tg d'[i]! < e := permIn_all d d' (r * s) e (fun x => r * s ≤ tg x ∧ tg x < e) he hp (fun i h1 h2 => by rw [h.rest i h1 (by omega)]; exact ⟨h1, h2⟩)
  refine ⟨fun q i h1 h2 h3 => ?_, fun q i j h1 h2 h3 h4 => ?_, fun i h1 h2 => ?_⟩
  · by_cases hi : i < r * s
    · rw [lo i hi]; exact h.own q i h1 h2 hi
    · have hqr : q = r := by
        rcases Nat.lt_trichotomy q r with hh | hh | hh
        · have := blk_lt (s := s) hh; omega
        · exact hh
        · have := blk_lt (s := s) hh; omega
      subst hqr
      have := mid i (by omega) h3
      omega
  · by_cases hj : j < r * s
    · rw [lo i (by omega), lo j hj]; exact h.up q i j h1 h2 h3 hj
    · have hqr : q = r := by
        rcases Nat.lt_trichotomy q r with hh | hh | hh
        · have := blk_lt (s := s) hh; omega
        · exact hh
        · have := blk_lt (s := s) hh; omega
      subst hqr
      exact hr i j h1 h2 h4
  · rw [hp.2.1 i (Or.inr h1)]
    exact h.rest i (by omega) (by rw [← hp.1]; exact h2)
theorem Blk0.whole {s : Nat} {d : Array α} (h : Blk0 cf tg s d.size d) : Blk cf tg s d := ⟨h.own, h.up⟩
theorem Blk.rise {s : Nat} {d : Array α} (h : Blk cf tg s d) (hs : d.size ≤ s) : Rise cf tg 0 d.size d := fun i j _ h2 h3 => h.up 0 i j (by omega) h2 (by omega) h3

/-- Up to a: blocks of twice so many; from there on of so many. -/
structure Blk2 (cf : α → α → Int) (tg : α → Nat) (s a : Nat) (d : Array α) : Prop where
  own2 : ∀ q i, q * (2 * s) ≤ i → i < q * (2 * s) + 2 * s → i < d.size → q * (2 * s) ≤ tg d[i]! ∧ tg d[i]! < q * (2 * s) + 2 * s
  own : ∀ q i, a ≤ i → q * s ≤ i → i < q * s + s → i < d.size → q * s ≤ tg d[i]! ∧ tg d[i]! < q * s + s
  up2 : ∀ q i j, q * (2 * s) ≤ i → i < j → j < q * (2 * s) + 2 * s → j < a → Lx cf tg d[i]! d[j]!
  up : ∀ q i j, a ≤ i → q * s ≤ i → i < j → j < q * s + s → j < d.size → Lx cf tg d[i]! d[j]!
theorem twice (q s : Nat) : q * (2 * s) = 2 * q * s ∧ (2 * q + 1) * s = 2 * q * s + s := ⟨by rw [← Nat.mul_assoc, Nat.mul_comm q 2], by rw [Nat.succ_mul]⟩
theorem Blk2.start {s : Nat} {d : Array α} (h : Blk cf tg s d) : Blk2 cf tg s 0 d := by
  refine ⟨fun q i h1 h2 h3 => ?_, fun q i _ => h.own q i, fun q i j h1 h2 h3 h4 => by omega, fun q i j _ => h.up q i j⟩
  obtain ⟨e1, e2⟩ := twice q s
  by_cases hi : i < 2 * q * s + s
  · have := h.own (2 * q) i (by omega) hi h3; omega
  · have := h.own (2 * q + 1) i (by omega) (by omega) h3; omega
/-- What is to be merged. -/
theorem Blk2.mrg {s r e : Nat} {d : Array α} (h : Blk2 cf tg s (r * (2 * s)) d) (hs : 0 < s) (he : e ≤ d.size) (h1 : r * (2 * s) + s < e) (h2 : e ≤ r * (2 * s) + 2 * s) : Mrg cf tg (r * (2 * s)) (r * (2 * s) + s) e d := by
  obtain ⟨e1, e2⟩ := twice r s
  refine ⟨by omega, h1, he, fun i j g1 g2 g3 => h.up (2 * r) i j g1 (by omega) g2 (by omega) (by omega), fun i j g1 g2 g3 => h.up (2 * r + 1) i j (by omega) (by omega) g2 (by omega) (by omega), fun i j g1 g2 g3 g4 => ?_⟩
  have a1 := h.own (2 * r) i g1 (by omega) (by omega) (by omega)
  have a2 := h.own (2 * r + 1) j (by omega) (by omega) (by omega) (by omega)
  omega
/-- Behind it. -/
theorem Blk2.next {s r e : Nat} {d d' : Array α} (h : Blk2 cf tg s (r * (2 * s)) d) (he : e ≤ d.size) (h1 : r * (2 * s) ≤ e) (h2 : e ≤ r * (2 * s) + 2 * s) (h3 : e = r * (2 * s) + 2 * s ∨ e = d.size) (hp : PermIn (r * (2 * s)) e d d') (hr : Rise cf tg (r * (2 * s)) e d') : Blk2 cf tg s e d' := by
  obtain ⟨e1, e2⟩ := twice r s
  have lo : ∀ i, i < r * (2 * s) → d'[i]! = d[i]! := fun i hi => hp.2.1 i (Or.inl hi)
  have up : ∀ i, e ≤ i → d'[i]! = d[i]! := fun i hi => hp.2.1 i (Or.inr hi)
  have mid : ∀ i, r * (2 * s) ≤ i → i < e → r * (2 * s) ≤ tg d'[i]! ∧ tg d'[i]! < r * (2 * s) + 2 * s := permIn_all d d' _ e (fun x => r * (2 * s) ≤ tg x ∧ tg x < r * (2 * s) + 2 * s) he hp (fun i k1 k2 => h.own2 r i k1 (by omega) (by omega))
  have hsz := hp.1
  refine ⟨fun q i k1 k2 k3 => ?_, fun q i k0 k1 k2 k3 => ?_, fun q i j k1 k2 k3 k4 => ?_, fun q i j k0 k1 k2 k3 k4 => ?_⟩
  · by_cases hi : i < r * (2 * s)
    · rw [lo i hi]; exact h.own2 q i k1 k2 (by omega)
    · by_cases hie : i < e
      · have hqr : q = r := by
          rcases Nat.lt_trichotomy q r with hh | hh | hh
          · have := blk_lt (s := 2 * s) hh; omega
          · exact hh
          · have := blk_lt (s := 2 * s) hh; omega
        subst hqr
        exact mid i (by omega) hie
      · rw [up i (by omega)]; exact h.own2 q i k1 k2 (by omega)
  · rw [up i k0]; exact h.own q i (by omega) k1 k2 (by omega)
  · by_cases hj : j < r * (2 * s)
    · rw [lo i (by omega), lo j hj]; exact h.up2 q i j k1 k2 k3 hj
    · have hqr : q = r := by
        rcases Nat.lt_trichotomy q r with hh | hh | hh
        · have := blk_lt (s := 2 * s) hh; omega
        · exact hh
        · have := blk_lt (s := 2 * s) hh; omega
      subst hqr
      exact hr i j k1 k2 k4
  · rw [up i k0, up j (by omega)]; exact h.up q i j (by omega) k1 k2 k3 (by omega)
/-- The last block may be none. -/
theorem Blk2.short {s r : Nat} {d : Array α} (h : Blk2 cf tg s (r * (2 * s)) d) (h1 : d.size ≤ r * (2 * s) + s) : Rise cf tg (r * (2 * s)) d.size d := by
  obtain ⟨e1, e2⟩ := twice r s
  exact fun i j g1 g2 g3 => h.up (2 * r) i j g1 (by omega) g2 (by omega) g3
theorem Blk2.whole {s a : Nat} {d : Array α} (h : Blk2 cf tg s a d) (ha : d.size ≤ a) : Blk cf tg (2 * s) d := ⟨h.own2, fun q i j h1 h2 h3 h4 => h.up2 q i j h1 h2 h3 (by omega)⟩
end Go.Proofs.YtfcdajldpnomfaaGreatDoor.Stb

/-
  Where two names part, from the root's side on (plain facts).
-/
namespace Go.Proofs.YtfcdajldpnomfaaGreatDoor
set_option maxRecDepth 20000
open Go.RowKit Go.Shelf

theorem cmpR_get : ∀ (k : Nat) (p q : Nm), k ≤ p.length → k ≤ q.length → (∀ i (h1 : i < p.length) (h2 : i < q.length), i < k → compareM p[i] q[i] = 0) → cmpR p q = cmpR (p.drop k) (q.drop k)
  | 0, _, _ => by intro _ _ _; rfl
  | k + 1, [], _ => by intro h _ _; simp at h
  | k + 1, _ :: _, [] => by intro _ h _; simp at h
  | k + 1, x :: r, y :: t => by
    intro h1 h2 h
    have h0 : compareM x y = 0 := h 0 (by simp) (by simp) (by omega)
    rw [cmpR, if_pos h0]
    exact cmpR_get k r t (by simpa using h1) (by simpa using h2) (fun i a b c => h (i + 1) (by simpa using a) (by simpa using b) (by omega))
theorem sharedR_get : ∀ (k : Nat) (p q : Nm), k ≤ p.length → k ≤ q.length → (∀ i (h1 : i < p.length) (h2 : i < q.length), i < k → compareM p[i] q[i] = 0) → sharedR p q = k + sharedR (p.drop k) (q.drop k)
  | 0, _, _ => by intro _ _ _; simp
  | k + 1, [], _ => by intro h _ _; simp at h
  | k + 1, _ :: _, [] => by intro _ h _; simp at h
  | k + 1, x :: r, y :: t => by
    intro h1 h2 h
    have h0 : compareM x y = 0 := h 0 (by simp) (by simp) (by omega)
    rw [sharedR, if_pos h0]
    have := sharedR_get k r t (by simpa using h1) (by simpa using h2) (fun i a b c => h (i + 1) (by simpa using a) (by simpa using b) (by omega))
    simp only [List.drop_succ_cons]; omega

variable {xs ys : Nm}
/-- All that is at hand, from x on, is alike. -/
theorem rev_alike {m : Nat} (hm : m ≤ xs.length) (_hy : xs.length ≤ m + ys.length) (h : ∀ j (h1 : j < xs.length) (h2 : xs.length ≤ j + ys.length), m ≤ j → compareM xs[j] (ys[j + ys.length - xs.length]'(by omega)) = 0) :
    ∀ i (h1 : i < xs.reverse.length) (h2 : i < ys.reverse.length), i < xs.length - m → compareM xs.reverse[i] ys.reverse[i] = 0 := by
  intro i h1 h2 hi
  simp only [List.length_reverse] at h1 h2
  have := h (xs.length - 1 - i) (by omega) (by omega) (by omega)
  simp only [List.getElem_reverse]
  have e : ys.length - 1 - i = xs.length - 1 - i + ys.length - xs.length := by omega
  simp only [e]
  exact this
theorem compareN_even (h : ∀ j (h1 : j < xs.length) (h2 : xs.length ≤ j + ys.length), compareM xs[j] (ys[j + ys.length - xs.length]'(by omega)) = 0) :
    compareN xs ys = cmpI xs.length ys.length := by
  have e := cmpR_get (xs.length - (xs.length - ys.length)) xs.reverse ys.reverse (by simp) (by simp; omega) (rev_alike (by omega) (by omega) (fun j h1 h2 _ => h j h1 h2))
  unfold compareN; rw [e]
  rcases Nat.lt_trichotomy xs.length ys.length with hl | hl | hl
  · have e1 : xs.reverse.drop (xs.length - (xs.length - ys.length)) = [] := List.drop_eq_nil_of_le (by simp; omega)
    rw [e1]
    have e2 : ys.reverse.drop (xs.length - (xs.length - ys.length)) ≠ [] := by intro q; have := congrArg List.length q; simp at this; omega
    cases hq : ys.reverse.drop (xs.length - (xs.length - ys.length)) with
    | nil => exact absurd hq e2
    | cons y t => unfold cmpI; rw [if_pos (by omega)]; rfl
  · have e1 : xs.reverse.drop (xs.length - (xs.length - ys.length)) = [] := List.drop_eq_nil_of_le (by simp; omega)
    have e2 : ys.reverse.drop (xs.length - (xs.length - ys.length)) = [] := List.drop_eq_nil_of_le (by simp; omega)
    rw [e1, e2]; unfold cmpI; rw [if_neg (by omega), if_neg (by omega)]; rfl
  · have e1 : ys.reverse.drop (xs.length - (xs.length - ys.length)) = [] := List.drop_eq_nil_of_le (by simp; omega)
    rw [e1]
    have e2 : xs.reverse.drop (xs.length - (xs.length - ys.length)) ≠ [] := by intro q; have := congrArg List.length q; simp at this; omega
    cases hq : xs.reverse.drop (xs.length - (xs.length - ys.length)) with
    | nil => exact absurd hq e2
    | cons y t => unfold cmpI; rw [if_neg (by omega), if_pos (by omega)]; rfl
theorem rev_drop {l : Nm} {x : Nat} (h : x < l.length) : ∃ t, l.reverse.drop (l.length - 1 - x) = l[x] :: t := by
  refine ⟨l.reverse.drop (l.length - 1 - x + 1), ?_⟩
  rw [List.drop_eq_getElem_cons (by simp; omega)]
  congr 1
  simp only [List.getElem_reverse]
  congr 1; omega
theorem compareN_at (x : Nat) (h1 : x < xs.length) (h2 : xs.length ≤ x + ys.length) (hne : compareM xs[x] (ys[x + ys.length - xs.length]'(by omega)) ≠ 0)
    (h : ∀ j (h1 : j < xs.length) (h2 : xs.length ≤ j + ys.length), x < j → compareM xs[j] (ys[j + ys.length - xs.length]'(by omega)) = 0) :
    compareN xs ys = compareM xs[x] (ys[x + ys.length - xs.length]'(by omega)) := by
  have e := cmpR_get (xs.length - (x + 1)) xs.reverse ys.reverse (by simp) (by simp; omega) (rev_alike (by omega) (by omega) (fun j a b c => h j a b (by omega)))
  unfold compareN; rw [e]
  obtain ⟨t, ht⟩ := rev_drop h1
  obtain ⟨r, hr⟩ := rev_drop (l := ys) (x := x + ys.length - xs.length) (by omega)
  rw [show xs.length - (x + 1) = xs.length - 1 - x by omega, ht, show xs.length - 1 - x = ys.length - 1 - (x + ys.length - xs.length) by omega, hr, cmpR, if_neg hne]
theorem shared_at (x : Nat) (h1 : x < xs.length) (h2 : xs.length ≤ x + 1 + ys.length) (hne : ∀ h2 : xs.length ≤ x + ys.length, compareM xs[x] (ys[x + ys.length - xs.length]'(by omega)) ≠ 0)
    (h : ∀ j (h1 : j < xs.length) (h2 : xs.length ≤ j + ys.length), x < j → compareM xs[j] (ys[j + ys.length - xs.length]'(by omega)) = 0) :
    sharedR xs.reverse ys.reverse = xs.length - 1 - x := by
  have e := sharedR_get (xs.length - (x + 1)) xs.reverse ys.reverse (by simp) (by simp; omega) (rev_alike (by omega) (by omega) (fun j a b c => h j a b (by omega)))
  rw [e]
  obtain ⟨t, ht⟩ := rev_drop h1
  rw [show xs.length - (x + 1) = xs.length - 1 - x by omega, ht]
  by_cases hy : xs.length ≤ x + ys.length
  · obtain ⟨r, hr⟩ := rev_drop (l := ys) (x := x + ys.length - xs.length) (by omega)
    rw [show ys.reverse.drop (xs.length - 1 - x) = ys[x + ys.length - xs.length] :: r by rw [← hr]; congr 1; omega, sharedR, if_neg (hne hy)]; rfl
  · rw [show ys.reverse.drop (xs.length - 1 - x) = [] from List.drop_eq_nil_of_le (by simp; omega)]; rfl
theorem shared_all (h2 : xs.length ≤ ys.length) (h : ∀ j (h1 : j < xs.length) (h2 : xs.length ≤ j + ys.length), compareM xs[j] (ys[j + ys.length - xs.length]'(by omega)) = 0) :
    sharedR xs.reverse ys.reverse = xs.length := by
  have e := sharedR_get xs.length xs.reverse ys.reverse (by simp) (by simp; omega) (by
    have := rev_alike (xs := xs) (ys := ys) (m := 0) (by omega) (by omega) (fun j a b c => h j a b)
    simpa using this)
  rw [e, List.drop_eq_nil_of_le (by simp)]; simp [sharedR]

/-- What has come, from the root's side on, up to x. -/
theorem rev_prefix {n : Nat} {p : List (Fin n)} {x : Fin n} (h : (p ++ [x]) <+: (List.finRange n).reverse) : p.length + x.val + 1 = n ∧ ∀ j : Fin n, x.val < j.val → j ∈ p := by
  have hl : p.length + 1 ≤ n := by have := h.length_le; simpa using this
  have hg : ∀ i (h1 : i < p.length + 1), (p ++ [x])[i]'(by simpa using h1) = ⟨n - 1 - i, by omega⟩ := fun i h1 => by
    have := h.getElem (i := i) (by simpa using h1)
    rw [this]; simp only [List.getElem_reverse, List.length_finRange, List.getElem_finRange]
    rfl
  have hx := hg p.length (by omega)
  simp only [List.getElem_concat_length] at hx
  have hxv : x.val = n - 1 - p.length := by rw [hx]
  refine ⟨by omega, fun j hj => ?_⟩
  have hlt : n - 1 - j.val < p.length := by have := j.isLt; omega
  have := hg (n - 1 - j.val) (by omega)
  rw [List.getElem_append_left hlt] at this
  have e : p[n - 1 - j.val] = j := by rw [this]; apply Fin.ext; simp; have := j.isLt; omega
  exact e ▸ List.getElem_mem hlt
/-- Label j of the first name is alike the label of the second that lies as deep. -/
def AlikeAt (xs ys : Nm) (j : Fin xs.length) : Prop := ∃ d, ∃ h : d < ys.length, j.val + ys.length = d + xs.length ∧ compareM xs[j] ys[d] = 0
theorem AlikeAt.eq {j : Fin xs.length} (h : AlikeAt xs ys j) : xs.length ≤ j.val + ys.length ∧ ∀ h : j.val + ys.length - xs.length < ys.length, compareM xs[j] ys[j.val + ys.length - xs.length] = 0 := by
  obtain ⟨d, hd, e, h0⟩ := h
  obtain rfl : d = j.val + ys.length - xs.length := by omega
  exact ⟨by omega, fun _ => h0⟩
theorem of_compareM {a b : List UInt8} : sameM a b = true ↔ compareM a b = 0 := by rw [sameM_eq, decide_eq_true_iff]

end Go.Proofs.YtfcdajldpnomfaaGreatDoor

/-
  Plain facts for types and numbers: digits, decimals read and written, letters great and small, the names of types.
-/
namespace Go.Proofs.YtfcdajldpnomfaaGreatDoor
set_option maxRecDepth 20000
open Go.RowKit Go.Shelf


/-! ### decimals -/
def valL (l : List UInt8) : Nat := l.foldl (fun n c => 10 * n + (c.toNat - 48)) 0
theorem valL_snoc (l : List UInt8) (c : UInt8) : valL (l ++ [c]) = 10 * valL l + (c.toNat - 48) := by simp [valL]
theorem foldl_ge (l : List UInt8) : ∀ n, n ≤ l.foldl (fun n c => 10 * n + (c.toNat - 48)) n := by
  induction l with
  | nil => intro n; simp
  | cons c l ih => intro n; simp only [List.foldl_cons]; exact Nat.le_trans (by omega) (ih _)
theorem valL_prefix {p l : List UInt8} (h : p <+: l) : valL p ≤ valL l := by
  obtain ⟨r, rfl⟩ := h; unfold valL; rw [List.foldl_append]; exact foldl_ge _ _
def allDigits (l : List UInt8) : Bool := l.all digitU
def formN (l : List UInt8) : Bool := (!l.isEmpty && allDigits l) && !(decide (1 < l.length) && decide (l.head? = some 48))
/-- A decimal without leading noughts, at most so much. -/
def numM (l : List UInt8) (most : Nat) : Nat × Int := if formN l then (if valL l ≤ most then (valL l, 0) else (0, 7)) else (0, 2)

theorem digitU_iff (c : UInt8) : digitU c = true ↔ 48 ≤ c.toNat ∧ c.toNat ≤ 57 := by unfold digitU; simp
theorem digitU_of (d : Nat) (h : d < 10) : digitU (UInt8.ofNat (48 + d)) = true := by
  rw [digitU_iff]; have : (UInt8.ofNat (48 + d)).toNat = 48 + d := by simp; omega
  omega
theorem ofNat_val (d : Nat) (h : d < 10) : (UInt8.ofNat (48 + d)).toNat - 48 = d := by
  have : (UInt8.ofNat (48 + d)).toNat = 48 + d := by simp; omega
  omega
theorem dec_facts : ∀ (u : Nat), allDigits (Lib.decDigits u) = true ∧ valL (Lib.decDigits u) = u ∧ Lib.decDigits u ≠ [] ∧ (1 < (Lib.decDigits u).length → (Lib.decDigits u).head? ≠ some 48) ∧ (0 < u → (Lib.decDigits u).head? ≠ some 48) := by
  intro u
  induction u using Nat.strongRecOn with
  | ind u ih =>
    rw [Lib.decDigits]
    by_cases h : u < 10
    · rw [dif_pos h]
      refine ⟨by simp only [allDigits, List.all_cons, List.all_nil, Bool.and_true]; exact digitU_of u h, by simp only [valL, List.foldl_cons, List.foldl_nil]; rw [ofNat_val u h]; omega, by simp, by simp, ?_⟩
      intro h0 e
      simp only [List.head?_cons, Option.some.injEq] at e
      have := congrArg UInt8.toNat e
      simp at this; omega
    · rw [dif_neg h]
      obtain ⟨h1, h2, h3, h4, h5⟩ := ih (u / 10) (by omega)
      have hm : u % 10 < 10 := Nat.mod_lt _ (by omega)
      have hh : (Lib.decDigits (u / 10) ++ [UInt8.ofNat (48 + u % 10)]).head? = (Lib.decDigits (u / 10)).head? := by
        cases hd : Lib.decDigits (u / 10) with
        | nil => exact absurd hd h3
        | cons a b => rfl
      refine ⟨?_, ?_, by simp, fun _ => by rw [hh]; exact h5 (by omega), fun _ => by rw [hh]; exact h5 (by omega)⟩
      · unfold allDigits at *; rw [List.all_append, h1]; simp only [List.all_cons, List.all_nil, Bool.and_true, Bool.true_and]; exact digitU_of _ hm
      · rw [valL_snoc, h2, ofNat_val _ hm]; omega
theorem numM_dec (u most : Nat) (h : u ≤ most) : numM (Lib.decDigits u) most = (u, 0) := by
  obtain ⟨h1, h2, h3, h4, _⟩ := dec_facts u
  have hf : formN (Lib.decDigits u) = true := by
    unfold formN
    rw [h1]
    have : (Lib.decDigits u).isEmpty = false := by cases hd : Lib.decDigits u with
      | nil => exact absurd hd h3
      | cons a b => rfl
    rw [this]
    by_cases hl : 1 < (Lib.decDigits u).length
    · have := h4 hl; simp [this]
    · simp [hl]
  unfold numM; rw [hf, if_pos rfl, h2, if_pos h]

/-! ### letters -/
def greatU (c : UInt8) : UInt8 := if 97 ≤ c.toNat ∧ c.toNat ≤ 122 then c - 32 else c
def greatL (l : List UInt8) : List UInt8 := l.map greatU
theorem greatU_hi (c : UInt8) (h1 : 97 ≤ (c.toNat : Int)) (h2 : (c.toNat : Int) ≤ 122) : (c.toNat : Int) - 97 + 65 = ((greatU c).toNat : Int) := by
  unfold greatU; rw [if_pos ⟨by omega, by omega⟩, UInt8.toNat_sub]; simp; omega
theorem greatU_nat (c : UInt8) : (greatU c).toNat = if 97 ≤ c.toNat ∧ c.toNat ≤ 122 then c.toNat - 32 else c.toNat := by
  unfold greatU
  by_cases h : 97 ≤ c.toNat ∧ c.toNat ≤ 122
  · rw [if_pos h, if_pos h, UInt8.toNat_sub]; simp; omega
  · rw [if_neg h, if_neg h]
theorem smallU_nat (c : UInt8) : (smallU c).toNat = if 65 ≤ c.toNat ∧ c.toNat ≤ 90 then c.toNat + 32 else c.toNat := by
  unfold smallU
  by_cases h : 65 ≤ c.toNat ∧ c.toNat ≤ 90
  · rw [if_pos h, if_pos h, UInt8.toNat_add]; simp; omega
  · rw [if_neg h, if_neg h]
theorem great_small (c : UInt8) : greatU (smallU c) = greatU c := by
  apply UInt8.toNat.inj; rw [greatU_nat, greatU_nat, smallU_nat]; repeat' split
  all_goals omega
theorem small_great (c : UInt8) : smallU (greatU c) = smallU c := by
  apply UInt8.toNat.inj; rw [smallU_nat, smallU_nat, greatU_nat]; repeat' split
  all_goals omega
theorem greatL_fold (l : List UInt8) : greatL (foldL l) = greatL l := by unfold greatL foldL; rw [List.map_map]; exact List.map_congr_left fun c _ => great_small c
theorem foldL_great (l : List UInt8) : foldL (greatL l) = foldL l := by unfold greatL foldL; rw [List.map_map]; exact List.map_congr_left fun c _ => small_great c
theorem digit_great (c : UInt8) : digitU (greatU c) = digitU c ∧ (digitU c = true → greatU c = c) := by
  refine ⟨?_, ?_⟩
  · rw [Bool.eq_iff_iff, digitU_iff, digitU_iff, greatU_nat]; split <;> omega
  · intro h; rw [digitU_iff] at h; unfold greatU; rw [if_neg (by omega)]
theorem digit_small (c : UInt8) : digitU (smallU c) = digitU c ∧ (digitU c = true → smallU c = c) := by
  refine ⟨?_, ?_⟩
  · rw [Bool.eq_iff_iff, digitU_iff, digitU_iff, smallU_nat]; split <;> omega
  · intro h; rw [digitU_iff] at h; unfold smallU; rw [if_neg (by omega)]
theorem numM_map (f : UInt8 → UInt8) (hf : ∀ c, digitU (f c) = digitU c ∧ (digitU c = true → f c = c)) (l : List UInt8) (most : Nat) : numM (l.map f) most = numM l most := by
  by_cases h : allDigits l = true
  · have : l.map f = l := by
      conv => rhs; rw [← List.map_id l]
      apply List.map_congr_left
      intro c hc; exact (hf c).2 (List.all_eq_true.1 h c hc)
    rw [this]
  · have h1 : formN l = false := by unfold formN; simp only [Bool.not_eq_true] at h; rw [h]; simp
    have h2 : allDigits (l.map f) = false := by
      simp only [Bool.not_eq_true] at h
      rw [← h]; unfold allDigits; rw [List.all_map]; congr 1; funext c; exact (hf c).1
    have h3 : formN (l.map f) = false := by unfold formN; rw [h2]; simp
    unfold numM; rw [h1, h3]; rfl

/-! ### the names of types -/
def typeT (j : Nat) : Int := [1, 2, 5, 6, 12, 15, 16, 28, 39].getD j 0
def typeS (j : Nat) : List UInt8 := ([[65], [78, 83], [67, 78, 65, 77, 69], [83, 79, 65], [80, 84, 82], [77, 88], [84, 88, 84], [65, 65, 65, 65], [68, 78, 65, 77, 69]] : List (List UInt8)).getD j []
/-- The first row with that number; with that name. -/
def rowOfT (t : Int) : Option Nat := (List.range 9).find? fun j => decide (typeT j = t)
def rowOfS (s : List UInt8) : Option Nat := (List.range 9).find? fun j => decide (typeS j = s)
def typeNameM (t : Int) : List UInt8 := match rowOfT t with | some j => typeS j | none => []
def knownM (t : Int) : Bool := (rowOfT t).isSome
def typeTextM (t : Int) : List UInt8 := match rowOfT t with | some j => typeS j | none => [84, 89, 80, 69] ++ Lib.itoa t
def parseTypeM (s : List UInt8) : Int × Int :=
  match rowOfS (greatL s) with
  | some j => (typeT j, 0)
  | none =>
    if (greatL s).take 4 = [84, 89, 80, 69] then
      (if (numM (s.drop 4) 65535).2 = 2 then (0, 6) else if (numM (s.drop 4) 65535).2 ≠ 0 ∨ (numM (s.drop 4) 65535).1 = 0 then (0, 7) else ((numM (s.drop 4) 65535).1, 0))
    else (0, 6)
theorem find_range {n : Nat} {p : Nat → Bool} {j : Nat} (h : (List.range n).find? p = some j) : j < n ∧ p j = true ∧ ∀ i, i < j → p i = false := by
  refine ⟨by have := List.mem_of_find?_eq_some h; simpa using this, List.find?_some h, ?_⟩
  intro i hi
  rw [List.find?_range_eq_some] at h
  simpa using h.2.2 i hi
theorem find_range_none {n : Nat} {p : Nat → Bool} (h : (List.range n).find? p = none) : ∀ i, i < n → p i = false := by
  intro i hi; rw [List.find?_eq_none] at h; simpa using h i (by simpa using hi)
theorem rowOfT_typeT : ∀ j, j < 9 → rowOfT (typeT j) = some j := by decide
theorem rowOfS_typeS : ∀ j, j < 9 → rowOfS (typeS j) = some j := by decide
theorem great_typeS : ∀ j, j < 9 → greatL (typeS j) = typeS j := by decide
theorem typeS_ne : ∀ j, j < 9 → typeS j ≠ [] ∧ (typeS j).take 4 ≠ [84, 89, 80, 69] ∧ (typeS j).length ≤ 5 := by decide
theorem typeT_pos : ∀ j, j < 9 → 0 < typeT j ∧ typeT j ≤ 65535 := by decide
theorem fold_typeS (j : Nat) (hj : j < 9) (s : List UInt8) : (foldL (typeS j) = foldL s) ↔ (typeS j = greatL s) := by
  constructor
  · intro h
    have := congrArg greatL h
    rwa [greatL_fold, greatL_fold, great_typeS j hj] at this
  · intro h
    have := congrArg foldL h
    rwa [foldL_great] at this
theorem great_dec (u : Nat) : greatL (Lib.decDigits u) = Lib.decDigits u := by
  have h := (dec_facts u).1
  unfold greatL
  conv => rhs; rw [← List.map_id (Lib.decDigits u)]
  apply List.map_congr_left
  intro c hc; exact (digit_great c).2 (List.all_eq_true.1 h c hc)
theorem great_text (t : Nat) : greatL (typeTextM t) = typeTextM t := by
  unfold typeTextM
  cases h : rowOfT t with
  | some j => exact great_typeS j (find_range h).1
  | none =>
    show greatL ([84, 89, 80, 69] ++ Lib.itoa t) = [84, 89, 80, 69] ++ Lib.itoa t
    rw [Lib.itoa_nonneg]
    have h1 : greatL ([84, 89, 80, 69] ++ Lib.decDigits t) = greatL [84, 89, 80, 69] ++ greatL (Lib.decDigits t) := by simp [greatL]
    rw [h1, great_dec]; rfl
/-- A text that is a type's words but for its letters is that type. -/
theorem parse_great (t : Nat) (h1 : 0 < t) (h2 : t ≤ 65535) (s : List UInt8) (hs : greatL s = typeTextM t) : parseTypeM s = ((t : Int), 0) := by
  unfold parseTypeM
  rw [hs]
  unfold typeTextM at hs ⊢
  cases h : rowOfT t with
  | some j =>
    obtain ⟨hj, hp, _⟩ := find_range h
    simp only
    rw [rowOfS_typeS j hj]
    simp only [Prod.mk.injEq, and_true]
    exact of_decide_eq_true hp
  | none =>
    rw [h] at hs
    simp only [Lib.itoa_nonneg] at hs ⊢
    have hn : rowOfS ([84, 89, 80, 69] ++ Lib.decDigits t) = none := by
      cases h' : rowOfS ([84, 89, 80, 69] ++ Lib.decDigits t) with
      | none => rfl
      | some j =>
        obtain ⟨hj, hp, _⟩ := find_range h'
        have e := of_decide_eq_true hp
        have := (typeS_ne j hj).2.1
        rw [e] at this
        exact absurd rfl this
    rw [hn]
    simp only
    have h4 : ([84, 89, 80, 69] ++ Lib.decDigits t).take 4 = [84, 89, 80, 69] := rfl
    rw [if_pos h4]
    have hd : greatL (s.drop 4) = Lib.decDigits t := by
      have := congrArg (List.drop 4) hs
      unfold greatL at this ⊢
      rw [← List.map_drop] at this
      exact this
    have hnum : numM (s.drop 4) 65535 = (t, 0) := by
      rw [← numM_map greatU digit_great (s.drop 4) 65535]
      show numM (greatL (s.drop 4)) 65535 = _
      rw [hd]; exact numM_dec t 65535 h2
    rw [hnum]
    simp; omega
theorem text_inj (a b : Nat) (h1 : 0 < a) (h2 : a ≤ 65535) (h3 : 0 < b) (h4 : b ≤ 65535) (h : typeTextM a = typeTextM b) : a = b := by
  have e1 := parse_great a h1 h2 _ (great_text a)
  have e2 := parse_great b h3 h4 _ (great_text b)
  rw [h, e2] at e1
  simp at e1; omega

/-! ### bytes turned one by one -/
def half (f : Nat → UInt8 → UInt8) (l : List UInt8) (k : Nat) : List UInt8 := (l.take k).mapIdx f ++ l.drop k
theorem half_zero (f : Nat → UInt8 → UInt8) (l : List UInt8) : half f l 0 = l := by simp [half]
theorem half_all (f : Nat → UInt8 → UInt8) (l : List UInt8) : half f l l.length = l.mapIdx f := by simp [half]
theorem half_len (f : Nat → UInt8 → UInt8) (l : List UInt8) (k : Nat) : (half f l k).length = l.length := by simp [half]; omega
theorem half_get (f : Nat → UInt8 → UInt8) (l : List UInt8) (k : Nat) (h : k < l.length) : (half f l k)[k]'(by rw [half_len]; exact h) = l[k] := by
  unfold half
  rw [List.getElem_append_right (by simp; omega)]
  simp; congr 1; omega
theorem half_succ (f : Nat → UInt8 → UInt8) (l : List UInt8) (k : Nat) (h : k < l.length) : (half f l k).set k (f k l[k]) = half f l (k + 1) := by
  unfold half
  rw [List.take_succ_eq_append_getElem h, List.mapIdx_append, List.drop_eq_getElem_cons h, List.set_append_right _ _ (by simp; omega)]
  have : k - ((l.take k).mapIdx f).length = 0 := by simp; omega
  rw [this]
  simp only [List.set_cons_zero, List.mapIdx_cons, List.mapIdx_nil, List.append_assoc, List.cons_append, List.nil_append]
  congr 2
  simp; congr 1; omega

end Go.Proofs.YtfcdajldpnomfaaGreatDoor

