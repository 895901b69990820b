/-
  Plain facts of a stable sort by merging in place: elements with a place of their own (tg), an order cf.
-/
import Derived.Sort.LotA
import Derived.Test.YtckammgnmgkieaaGreatMQ29
import Derived.Deep.QuietTactic
import Derived.BigQuiet
import Derived.Shelf.SlSortFuncK.RowK2
import Derived.Shelf.SlicesQ.Reverse
import Derived.RegionCalls
import Derived.WalkKit
import Derived.Deep.LoopGhost
import Derived.Shelf.RegionOpenPlain
import Derived.Test.YtckammgnmgkieaaGreatMQ22
import Derived.Lib.ItoaNum
import Derived.Lib.ItoaMem
namespace Go.Proofs.YtckammgnmgkieaaGreat.Stb
open Go.Sort
set_option linter.unusedSectionVars false
variable {α : Type} [Inhabited α]

structure COrd (cf : α → α → Int) : Prop where
  anti : ∀ x y, cf y x = - cf x y
  trans : ∀ x y z, cf x y ≤ 0 → cf y z ≤ 0 → cf x z ≤ 0

def Lx (cf : α → α → Int) (tg : α → Nat) (x y : α) : Prop := cf x y < 0 ∨ (cf x y = 0 ∧ tg x < tg y)

section
variable {cf : α → α → Int} {tg : α → Nat}
omit [Inhabited α] in
theorem Lx.trans (h : COrd cf) {x y z : α} (h1 : Lx cf tg x y) (h2 : Lx cf tg y z) : Lx cf tg x z := by
  have a1 := h.anti x y; have a2 := h.anti y z; have a3 := h.anti x z
  have t1 := h.trans x y z; have t2 := h.trans z x y; have t3 := h.trans y z x
  unfold Lx at *
  rcases h1 with h1 | ⟨h1, g1⟩ <;> rcases h2 with h2 | ⟨h2, g2⟩ <;> omega
omit [Inhabited α] in
theorem Lx.irrefl (h : COrd cf) (x : α) : ¬ Lx cf tg x x := by
  have := h.anti x x
  unfold Lx; omega
omit [Inhabited α] in
theorem Lx.of_not (h : COrd cf) {x y : α} (ht : tg x < tg y) (hn : ¬ cf y x < 0) : Lx cf tg x y := by
  have := h.anti x y
  unfold Lx; omega
def Rise (cf : α → α → Int) (tg : α → Nat) (a b : Nat) (d : Array α) : Prop := ∀ i j, a ≤ i → i < j → j < b → Lx cf tg d[i]! d[j]!

theorem Rise.congr {a b : Nat} {d d' : Array α} (h : Rise cf tg a b d) (he : ∀ x, a ≤ x → x < b → d'[x]! = d[x]!) : Rise cf tg a b d' := fun i j h1 h2 h3 => by
  rw [he i h1 (by omega), he j (by omega) h3]; exact h i j h1 h2 h3
theorem Rise.sub {a b a' b' : Nat} {d : Array α} (h : Rise cf tg a b d) (h1 : a ≤ a') (h2 : b' ≤ b) : Rise cf tg a' b' d := fun i j g1 g2 g3 => h i j (by omega) g2 (by omega)
theorem Rise.join {a m b : Nat} {d : Array α} (h1 : Rise cf tg a m d) (h2 : Rise cf tg m b d) (h3 : ∀ i j, a ≤ i → i < m → m ≤ j → j < b → Lx cf tg d[i]! d[j]!) : Rise cf tg a b d := fun i j g1 g2 g3 => by
  by_cases hj : j < m
  · exact h1 i j g1 g2 hj
  · by_cases hi : i < m
    · exact h3 i j g1 hi (by omega) g3
    · exact h2 i j (by omega) g2 g3

def swr (a b n : Nat) (f : Nat → α) (x : Nat) : α := if a ≤ x ∧ x < a + n then f (x + (b - a)) else if b ≤ x ∧ x < b + n then f (x - (b - a)) else f x
theorem swr_zero (a b : Nat) (f : Nat → α) (x : Nat) : swr a b 0 f x = f x := by
  unfold swr; rw [if_neg (by omega), if_neg (by omega)]
theorem swr_step {a b n : Nat} {d dk : Array α} (hab : a + n < b) (hb : b + n < d.size) (hs : dk.size = d.size) (h : ∀ x, x < d.size → dk[x]! = swr a b n (fun i => d[i]!) x) :
    ∀ x, x < d.size → (swp dk (a + n) (b + n))[x]! = swr a b (n + 1) (fun i => d[i]!) x := by
  intro x hx
  rw [swp_get dk (by omega) (by omega), h (a + n) (by omega), h (b + n) hb, h x hx]
  unfold swr
  (try dsimp only)
  repeat' split
  all_goals first | (exfalso; omega) | rfl | (congr 1; omega)

def rot (a m b : Nat) (f : Nat → α) (x : Nat) : α := if a ≤ x ∧ x < a + (b - m) then f (x + (m - a)) else if a + (b - m) ≤ x ∧ x < b then f (x - (b - m)) else f x
theorem rot_gt {m i j : Nat} (f : Nat → α) (hm : i ≤ m) (hij : j < i) (x : Nat) : rot (m - (i - j)) m (m + j) (swr (m - i) m j f) x = rot (m - i) m (m + j) f x := by
  unfold rot swr
  (try dsimp only)
  repeat' split
  all_goals first | (exfalso; omega) | rfl | (congr 1; omega)
theorem rot_lt {m i j : Nat} (f : Nat → α) (hm : i ≤ m) (hij : i < j) (x : Nat) : rot (m - i) m (m + (j - i)) (swr (m - i) (m + j - i) i f) x = rot (m - i) m (m + j) f x := by
  unfold rot swr
  (try dsimp only)
  repeat' split
  all_goals first | (exfalso; omega) | rfl | (congr 1; omega)
theorem rot_eq {m i : Nat} (f : Nat → α) (hm : i ≤ m) (x : Nat) : swr (m - i) m i f x = rot (m - i) m (m + i) f x := by
  unfold rot swr
  repeat' split
  all_goals first | (exfalso; omega) | rfl | (congr 1; omega)
theorem rot_congr {a m b n : Nat} {f g : Nat → α} (hm : a ≤ m) (hmb : m ≤ b) (hb : b ≤ n) (h : ∀ x, x < n → f x = g x) (x : Nat) (hx : x < n) : rot a m b f x = rot a m b g x := by
  unfold rot
  repeat' split
  all_goals exact h _ (by omega)
theorem rot_left {m b : Nat} (f : Nat → α) (x : Nat) : rot m m b f x = f x := by
  unfold rot
  repeat' split
  all_goals first | (exfalso; omega) | rfl | (congr 1; omega)
theorem rot_right {a m : Nat} (f : Nat → α) (x : Nat) : rot a m m f x = f x := by
  unfold rot
  repeat' split
  all_goals first | (exfalso; omega) | rfl | (congr 1; omega)

def shu (a k : Nat) (f : Nat → α) (x : Nat) : α := if a ≤ x ∧ x < k then f (x + 1) else if x = k then f a else f x
theorem shu_zero (a : Nat) (f : Nat → α) (x : Nat) : shu a a f x = f x := by
  unfold shu
  repeat' split
  all_goals first | (exfalso; omega) | rfl | (congr 1; omega)
theorem shu_step {a k : Nat} {d dk : Array α} (hak : a ≤ k) (hk : k + 1 < d.size) (hs : dk.size = d.size) (h : ∀ x, x < d.size → dk[x]! = shu a k (fun i => d[i]!) x) :
    ∀ x, x < d.size → (swp dk k (k + 1))[x]! = shu a (k + 1) (fun i => d[i]!) x := by
  intro x hx
  rw [swp_get dk (by omega) (by omega), h k (by omega), h (k + 1) hk, h x hx]
  unfold shu
  (try dsimp only)
  repeat' split
  all_goals first | (exfalso; omega) | rfl | (congr 1; omega)
def shd (k m : Nat) (f : Nat → α) (x : Nat) : α := if k < x ∧ x ≤ m then f (x - 1) else if x = k then f m else f x
theorem shd_zero (m : Nat) (f : Nat → α) (x : Nat) : shd m m f x = f x := by
  unfold shd
  repeat' split
  all_goals first | (exfalso; omega) | rfl | (congr 1; omega)
theorem shd_step {k m : Nat} {d dk : Array α} (hkm : k + 1 ≤ m) (hm : m < d.size) (hs : dk.size = d.size) (h : ∀ x, x < d.size → dk[x]! = shd (k + 1) m (fun i => d[i]!) x) :
    ∀ x, x < d.size → (swp dk (k + 1) k)[x]! = shd k m (fun i => d[i]!) x := by
  intro x hx
  rw [swp_get dk (by omega) (by omega), h k (by omega), h (k + 1) (by omega), h x hx]
  unfold shd
  (try dsimp only)
  repeat' split
  all_goals first | (exfalso; omega) | rfl | (congr 1; omega)

structure Mrg (cf : α → α → Int) (tg : α → Nat) (a m b : Nat) (d : Array α) : Prop where
  am : a < m
  mb : m < b
  bs : b ≤ d.size
  l : Rise cf tg a m d
  r : Rise cf tg m b d
  x : ∀ i j, a ≤ i → i < m → m ≤ j → j < b → tg d[i]! < tg d[j]!

theorem Mrg.one (hO : COrd cf) {a b i : Nat} {d d' : Array α} (h : Mrg cf tg a (a + 1) b d) (hi : a + 1 ≤ i) (hib : i ≤ b)
    (h1 : i = a + 1 ∨ cf d[i - 1]! d[a]! < 0) (h2 : i = b ∨ ¬ cf d[i]! d[a]! < 0) (hd : ∀ x, x < d.size → d'[x]! = shu a (i - 1) (fun k => d[k]!) x) : Rise cf tg a b d' := by
  have hb := h.bs
  have lo : ∀ k, a + 1 ≤ k → k < i → Lx cf tg d[k]! d[a]! := fun k g1 g2 => by
    rcases h1 with h1 | h1
    · omega
    · by_cases e : k = i - 1
      · subst e; exact Or.inl h1
      · exact (h.r k (i - 1) g1 (by omega) (by omega)).trans hO (Or.inl h1)
  have hi' : ∀ k, i ≤ k → k < b → Lx cf tg d[a]! d[k]! := fun k g1 g2 => by
    rcases h2 with h2 | h2
    · omega
    · have hx : Lx cf tg d[a]! d[i]! := Lx.of_not hO (h.x a i (Nat.le_refl _) (by omega) (by omega) (by omega)) h2
      by_cases e : k = i
      · subst e; exact hx
      · exact hx.trans hO (h.r i k (by omega) (by omega) g2)
  intro p q g1 g2 g3
  rw [hd p (by omega), hd q (by omega)]
  unfold shu
  (try dsimp only)
  repeat' split
  all_goals first
    | (exfalso; omega)
    | exact h.r _ _ (by omega) (by omega) (by omega)
    | exact lo _ (by omega) (by omega)
    | exact hi' _ (by omega) (by omega)

theorem Mrg.last (hO : COrd cf) {a m i : Nat} {d d' : Array α} (h : Mrg cf tg a m (m + 1) d) (hi : a ≤ i) (hib : i ≤ m)
    (h1 : i = a ∨ ¬ cf d[m]! d[i - 1]! < 0) (h2 : i = m ∨ cf d[m]! d[i]! < 0) (hd : ∀ x, x < d.size → d'[x]! = shd i m (fun k => d[k]!) x) : Rise cf tg a (m + 1) d' := by
  have hb := h.bs
  have hm := h.am
  have lo : ∀ k, a ≤ k → k < i → Lx cf tg d[k]! d[m]! := fun k g1 g2 => by
    rcases h1 with h1 | h1
    · omega
    · have hx : Lx cf tg d[i - 1]! d[m]! := Lx.of_not hO (h.x (i - 1) m (by omega) (by omega) (Nat.le_refl _) (by omega)) h1
      by_cases e : k = i - 1
      · subst e; exact hx
      · exact (h.l k (i - 1) g1 (by omega) (by omega)).trans hO hx
  have hi' : ∀ k, i ≤ k → k < m → Lx cf tg d[m]! d[k]! := fun k g1 g2 => by
    rcases h2 with h2 | h2
    · omega
    · by_cases e : k = i
      · subst e; exact Or.inl h2
      · exact Lx.trans hO (Or.inl h2) (h.l i k (by omega) (by omega) g2)
  intro p q g1 g2 g3
  rw [hd p (by omega), hd q (by omega)]
  unfold shd
  (try dsimp only)
  repeat' split
  all_goals first
    | (exfalso; omega)
    | exact h.l _ _ (by omega) (by omega) (by omega)
    | exact lo _ (by omega) (by omega)
    | exact hi' _ (by omega) (by omega)

structure Cutp (cf : α → α → Int) (a m b mid s : Nat) (d : Array α) : Prop where
  lo : a ≤ s
  hi : s ≤ mid
  sm : s ≤ m
  e : mid + m - s ≤ b
  p1 : s = a ∨ mid + m - s = b ∨ ¬ cf d[mid + m - s]! d[s - 1]! < 0
  p2 : s = m ∨ s = mid ∨ cf d[mid + m - s - 1]! d[s]! < 0

theorem Mrg.turned (hO : COrd cf) {a m b mid s : Nat} {d d' : Array α} (h : Mrg cf tg a m b d) (c : Cutp cf a m b mid s d) (ham : a < mid) (hmb : mid < b)
    (hs : d'.size = d.size) (hd : ∀ x, x < d.size → d'[x]! = rot s m (mid + m - s) (fun k => d[k]!) x) :
    (a < s → s < mid → Mrg cf tg a s mid d') ∧ (¬ (a < s ∧ s < mid) → Rise cf tg a mid d') ∧ (mid < mid + m - s → mid + m - s < b → Mrg cf tg mid (mid + m - s) b d') ∧ (¬ (mid < mid + m - s ∧ mid + m - s < b) → Rise cf tg mid b d') ∧
    (∀ i j, a ≤ i → i < mid → mid ≤ j → j < b → Lx cf tg d'[i]! d'[j]!) := by
  have hb := h.bs
  have am := h.am
  have mb := h.mb
  obtain ⟨lo, hi, sm, e, p1, p2⟩ := c
  have g : ∀ x, x < b → d'[x]! = if s ≤ x ∧ x < mid then d[x + (m - s)]! else if mid ≤ x ∧ x < mid + m - s then d[x - (mid - s)]! else d[x]! := fun x hx => by
    rw [hd x (by omega)]
    unfold rot
    (try dsimp only)
    repeat' split
    all_goals first | (exfalso; omega) | rfl | (congr 1; omega)
  have A1 : Rise cf tg a s d' := h.l.sub (Nat.le_refl _) sm |>.congr fun x h1 h2 => by rw [g x (by omega), if_neg (by omega), if_neg (by omega)]
  have A2 : Rise cf tg s mid d' := fun i j h1 h2 h3 => by
    rw [g i (by omega), g j (by omega), if_pos (by omega), if_pos (by omega)]
    exact h.r _ _ (by omega) (by omega) (by omega)
  have B1 : Rise cf tg mid (mid + m - s) d' := fun i j h1 h2 h3 => by
    rw [g i (by omega), g j (by omega), if_neg (by omega), if_pos (by omega), if_neg (by omega), if_pos (by omega)]
    exact h.l _ _ (by omega) (by omega) (by omega)
  have B2 : Rise cf tg (mid + m - s) b d' := fun i j h1 h2 h3 => by
    rw [g i (by omega), g j (by omega), if_neg (by omega), if_neg (by omega), if_neg (by omega), if_neg (by omega)]
    exact h.r _ _ (by omega) (by omega) (by omega)
  refine ⟨fun k1 k2 => ⟨k1, k2, by omega, A1, A2, fun i j h1 h2 h3 h4 => ?_⟩, fun hn => ?_, fun k1 k2 => ⟨k1, k2, by omega, B1, B2, fun i j h1 h2 h3 h4 => ?_⟩, fun hn => ?_, fun i j h1 h2 h3 h4 => ?_⟩
  · rw [g i (by omega), g j (by omega), if_neg (by omega), if_neg (by omega), if_pos (by omega)]
    exact h.x _ _ (by omega) (by omega) (by omega) (by omega)
  · by_cases hsa : s = a
    · exact hsa ▸ A2
    · have : s = mid := by omega
      exact this ▸ A1
  · rw [g i (by omega), g j (by omega), if_neg (by omega), if_pos (by omega), if_neg (by omega), if_neg (by omega)]
    exact h.x _ _ (by omega) (by omega) (by omega) (by omega)
  · by_cases hsa : s = m
    · have : mid + m - s = mid := by omega
      exact this ▸ B2
    · have : mid + m - s = b := by omega
      exact this ▸ B1
  · rw [g i (by omega), g j (by omega)]
    -- of the four pairs
    have X1 : ∀ u v, a ≤ u → u < s → mid + m - s ≤ v → v < b → Lx cf tg d[u]! d[v]! := fun u v q1 q2 q3 q4 => by
      rcases p1 with p1 | p1 | p1
      · omega
      · omega
      · have hx : Lx cf tg d[s - 1]! d[mid + m - s]! := Lx.of_not hO (h.x _ _ (by omega) (by omega) (by omega) (by omega)) p1
        have h5 : Lx cf tg d[u]! d[mid + m - s]! := by
          by_cases e : u = s - 1
          · subst e; exact hx
          · exact (h.l u (s - 1) q1 (by omega) (by omega)).trans hO hx
        by_cases e : v = mid + m - s
        · subst e; exact h5
        · exact h5.trans hO (h.r _ v (by omega) (by omega) q4)
    have X2 : ∀ u v, m ≤ u → u < mid + m - s → s ≤ v → v < m → Lx cf tg d[u]! d[v]! := fun u v q1 q2 q3 q4 => by
      rcases p2 with p2 | p2 | p2
      · omega
      · omega
      · have h5 : Lx cf tg d[u]! d[s]! := by
          by_cases e : u = mid + m - s - 1
          · subst e; exact Or.inl p2
          · exact (h.r u (mid + m - s - 1) q1 (by omega) (by omega)).trans hO (Or.inl p2)
        by_cases e : v = s
        · subst e; exact h5
        · exact h5.trans hO (h.l s v (by omega) (by omega) q4)
    repeat' split
    all_goals first
      | (exfalso; omega)
      | exact X1 _ _ (by omega) (by omega) (by omega) (by omega)
      | exact X2 _ _ (by omega) (by omega) (by omega) (by omega)
      | exact h.l _ _ (by omega) (by omega) (by omega)
      | exact h.r _ _ (by omega) (by omega) (by omega)

theorem rise_both (a mid b : Nat) {d1 d2 d3 : Array α} (hmb : mid ≤ b) (hb : b ≤ d1.size) (hx : ∀ i j, a ≤ i → i < mid → mid ≤ j → j < b → Lx cf tg d1[i]! d1[j]!)
    (h1 : PermIn a mid d1 d2) (r1 : Rise cf tg a mid d2) (h2 : PermIn mid b d2 d3) (r2 : Rise cf tg mid b d3) : Rise cf tg a b d3 := by
  have k1 : ∀ i, a ≤ i → i < mid → ∀ j, mid ≤ j → j < b → Lx cf tg d2[i]! d1[j]! := permIn_all d1 d2 a mid (fun x => ∀ j, mid ≤ j → j < b → Lx cf tg x d1[j]!) (by omega) h1 (fun i q1 q2 j q3 q4 => hx i j q1 q2 q3 q4)
  have k2 : ∀ j, mid ≤ j → j < b → ∀ i, a ≤ i → i < mid → Lx cf tg d2[i]! d3[j]! := permIn_all d2 d3 mid b (fun y => ∀ i, a ≤ i → i < mid → Lx cf tg d2[i]! y) (by rw [h1.1]; omega) h2 (fun j q1 q2 i q3 q4 => by rw [h1.2.1 j (Or.inr q1)]; exact k1 i q3 q4 j q1 q2)
  refine Rise.join (r1.congr fun x q1 q2 => h2.2.1 x (Or.inl q2)) r2 fun i j q1 q2 q3 q4 => ?_
  rw [h2.2.1 i (Or.inl q2)]
  exact k2 j q3 q4 i q1 q2
end
end Go.Proofs.YtckammgnmgkieaaGreat.Stb

/-
  A drawn region of reads and calls, over any class of worlds.
-/
namespace Go.Proofs.YtckammgnmgkieaaGreat
set_option maxRecDepth 20000
open Go.RowKit Go.Shelf

structure WIn (C : World → Prop) where
  w : World
  ok : C w
theorem wp_region_cls {P : Program} {id : Nat} {Q : Exit → Act → World → Prop} {a : Act} {w : World} {l : List Oper} (C : World → Prop) (hm : P.follows .mixedOrders = true) (hB : Region.lexB .any l.toArray = true) (hC : C w.drew)
    (h : wpQuiet P l.toArray (fun w' => ∃ p : WIn C, w' = p.w) (fun a' => ∀ w', (∃ p : WIn C, w' = p.w) → Q .normal a' w') l a) : (Code.region id l.toArray true).wp P Q a w :=
  wp_region_quiet (C := fun w' => ∃ p : WIn C, w' = p.w) hm hB ⟨⟨w.drew, hC⟩, rfl⟩ (by simpa using h)
theorem Calls.cls {C : World → Prop} {P : Program} {f : FuncId} {args : Array Value} {w : World} {v : Value}
    (h : Calls P f args w fun e w' => e = .returned v ∧ C w') : Calls P f args w fun e w'' => e = .returned v ∧ ∃ q : WIn C, w'' = q.w :=
  h.mono fun _ w' ⟨he, hc⟩ => ⟨he, ⟨w', hc⟩, rfl⟩
end Go.Proofs.YtckammgnmgkieaaGreat

/-
  The stable sort, block by block: what its loops keep.
-/
namespace Go.Proofs.YtckammgnmgkieaaGreat.Stb
open Go.Sort
set_option linter.unusedSectionVars false
variable {α : Type} [Inhabited α] {cf : α → α → Int} {tg : α → Nat}

def lb (cf : α → α → Int) (x y : α) : Bool := decide (cf x y < 0)

structure InsR (cf : α → α → Int) (tg : α → Nat) (a j i : Nat) (d : Array α) : Prop where
  rest : ∀ p q, a ≤ p → p < q → q ≤ i → p ≠ j → q ≠ j → Lx cf tg d[p]! d[q]!
  right : ∀ q, j < q → q ≤ i → Lx cf tg d[j]! d[q]!
  most : ∀ q, a ≤ q → q ≤ i → q ≠ j → tg d[q]! < tg d[j]!

theorem InsR.stop (hO : COrd cf) {a j i : Nat} {d : Array α} (h : InsR cf tg a j i d) (haj : a ≤ j) (hji : j ≤ i) (hs : j ≤ a ∨ lb cf d[j]! d[j - 1]! = false) : Rise cf tg a (i + 1) d := by
  have hl : ∀ p, a ≤ p → p < j → Lx cf tg d[p]! d[j]! := fun p h1 h2 => by
    rcases hs with hs | hs
    · omega
    · have hx : Lx cf tg d[j - 1]! d[j]! := Lx.of_not hO (h.most _ (by omega) (by omega) (by omega)) (by simpa [lb] using hs)
      by_cases e : p = j - 1
      · subst e; exact hx
      · exact (h.rest p (j - 1) h1 (by omega) (by omega) (by omega) (by omega)).trans hO hx
  intro p q hap hpq hqi
  by_cases hq : q = j
  · subst hq; exact hl p hap hpq
  · by_cases hp : p = j
    · subst hp; exact h.right q hpq (by omega)
    · exact h.rest p q hap hpq (by omega) hp hq

theorem InsR.step {a j i : Nat} {d : Array α} (h : InsR cf tg a (j + 1) i d) (hl : lb cf d[j + 1]! d[j]! = true) (haj : a ≤ j) (hji : j + 1 ≤ i) (hsz : j + 1 < d.size) : InsR cf tg a j i (swp d (j + 1) j) := by
  have g := swp_get d hsz (show j < d.size by omega)
  have hl' : cf d[j + 1]! d[j]! < 0 := by simpa [lb] using hl
  refine ⟨fun p q hap hpq hqi hp hq => ?_, fun q hjq hqi => ?_, fun q haq hqi hq => ?_⟩
  · rw [g, g]
    repeat' split
    all_goals first
      | (exfalso; omega)
      | exact h.rest _ _ (by omega) (by omega) (by omega) (by omega) (by omega)
  · rw [g, g, if_pos rfl]
    repeat' split
    all_goals first
      | (exfalso; omega)
      | exact Or.inl hl'
      | exact h.right _ (by omega) (by omega)
  · rw [g, g, if_pos rfl]
    repeat' split
    all_goals first
      | (exfalso; omega)
      | exact h.most _ (by omega) (by omega) (by omega)

theorem insInner_rise (hO : COrd cf) (a i : Nat) : ∀ (j : Nat) (d : Array α), a ≤ j → j ≤ i → i + 1 ≤ d.size → InsR cf tg a j i d →
    PermIn a (i + 1) d (insInner (lb cf) a j d) ∧ Rise cf tg a (i + 1) (insInner (lb cf) a j d)
  | 0, d, h1, h2, _, hI => by
    unfold insInner
    exact ⟨permIn_refl d a _, hI.stop hO h1 h2 (Or.inl (Nat.zero_le _))⟩
  | j + 1, d, haj, hji, hb, hI => by
    unfold insInner
    split
    · rename_i hc
      simp only [Bool.and_eq_true, decide_eq_true_eq] at hc
      have ih := insInner_rise hO a i j (swp d (j + 1) j) (by omega) (by omega) (by rw [swp_size]; exact hb) (hI.step hc.2 (by omega) hji (by omega))
      exact ⟨permIn_trans _ _ _ a (i + 1) (swp_permIn d a (i + 1) (j + 1) j haj (by omega) (by omega) (by omega) hb) ih.1, ih.2⟩
    · rename_i hc
      simp only [Bool.and_eq_true, decide_eq_true_eq, not_and, Bool.not_eq_true] at hc
      refine ⟨permIn_refl d a _, hI.stop hO haj hji ?_⟩
      by_cases h : j + 1 > a
      · exact Or.inr (by simpa using hc h)
      · exact Or.inl (by omega)

theorem insOuter_rise (hO : COrd cf) (a b : Nat) : ∀ (n i : Nat) (d : Array α), b - i = n → a < i → i ≤ b → b ≤ d.size → Rise cf tg a i d → (∀ p q, a ≤ p → p < q → i ≤ q → q < b → tg d[p]! < tg d[q]!) →
    PermIn a b d (insOuter (lb cf) a b i d) ∧ Rise cf tg a b (insOuter (lb cf) a b i d)
  | 0, i, d, hn, _, hib, _, hs, _ => by
    obtain rfl : i = b := by omega
    rw [insOuter, if_neg (by omega)]
    exact ⟨permIn_refl d a i, hs⟩
  | n + 1, i, d, hn, hai, hib, hb, hs, ht => by
    have hlt : i < b := by omega
    rw [insOuter, if_pos hlt]
    have h1 := insInner_rise hO a i i d (by omega) (Nat.le_refl _) (by omega) ⟨fun p q hap hpq hqi _ hq => hs p q hap hpq (by omega), fun q h1 h2 => by omega, fun q h1 h2 h3 => ht q i h1 (by omega) (Nat.le_refl _) hlt⟩
    have hp := h1.1
    have ht2 : ∀ p q, a ≤ p → p < q → i + 1 ≤ q → q < b → tg (insInner (lb cf) a i d)[p]! < tg (insInner (lb cf) a i d)[q]! := fun p q g1 g2 g3 g4 => by
      rw [hp.2.1 q (Or.inr g3)]
      by_cases hpi : p < i + 1
      · exact permIn_all d _ a (i + 1) (fun x => tg x < tg d[q]!) (by omega) hp (fun k k1 k2 => ht k q k1 (by omega) (by omega) g4) p g1 hpi
      · rw [hp.2.1 p (Or.inr (by omega))]; exact ht p q g1 g2 (by omega) g4
    have h2 := insOuter_rise hO a b n (i + 1) (insInner (lb cf) a i d) (by omega) (by omega) (by omega) (by rw [hp.1]; exact hb) h1.2 ht2
    exact ⟨permIn_trans _ _ _ a b (permIn_mono _ _ a (i + 1) a b (Nat.le_refl _) (by omega) hb hp) h2.1, h2.2⟩

theorem insertion_rise (hO : COrd cf) (d : Array α) (a b : Nat) (hab : a ≤ b) (hb : b ≤ d.size) (ht : ∀ p q, a ≤ p → p < q → q < b → tg d[p]! < tg d[q]!) :
    PermIn a b d (insertionSort (lb cf) d a b) ∧ Rise cf tg a b (insertionSort (lb cf) d a b) := by
  unfold insertionSort
  by_cases h : a = b
  · subst h
    rw [insOuter, if_neg (by omega)]
    exact ⟨permIn_refl d a a, fun i j h1 h2 h3 => by omega⟩
  · exact insOuter_rise hO a b (b - (a + 1)) (a + 1) d rfl (by omega) (by omega) hb (fun i j h1 h2 h3 => by omega) (fun p q h1 h2 h3 h4 => ht p q h1 h2 h4)

structure Blk (cf : α → α → Int) (tg : α → Nat) (s : Nat) (d : Array α) : Prop where
  own : ∀ q i, q * s ≤ i → i < q * s + s → i < d.size → q * s ≤ tg d[i]! ∧ tg d[i]! < q * s + s
  up : ∀ q i j, q * s ≤ i → i < j → j < q * s + s → j < d.size → Lx cf tg d[i]! d[j]!
structure Blk0 (cf : α → α → Int) (tg : α → Nat) (s a : Nat) (d : Array α) : Prop where
  own : ∀ q i, q * s ≤ i → i < q * s + s → i < a → q * s ≤ tg d[i]! ∧ tg d[i]! < q * s + s
  up : ∀ q i j, q * s ≤ i → i < j → j < q * s + s → j < a → Lx cf tg d[i]! d[j]!
  rest : ∀ i, a ≤ i → i < d.size → tg d[i]! = i
theorem Blk0.start {s : Nat} {d : Array α} (h : ∀ i, i < d.size → tg d[i]! = i) : Blk0 cf tg s 0 d := ⟨fun q i h1 h2 h3 => by omega, fun q i j h1 h2 h3 h4 => by omega, fun i _ h1 => h i h1⟩
theorem blk_lt {q r s : Nat} (h : q < r) : q * s + s ≤ r * s := by
  have := Nat.mul_le_mul_right s (show q + 1 ≤ r from h); rwa [Nat.succ_mul] at this
theorem Blk0.tags {s a e : Nat} {d : Array α} (h : Blk0 cf tg s a d) (he : e ≤ d.size) : ∀ p q, a ≤ p → p < q → q < e → tg d[p]! < tg d[q]! := fun p q h1 h2 h3 => by
  rw [h.rest p h1 (by omega), h.rest q (by omega) (by omega)]; exact h2
theorem Blk0.next {s r e : Nat} {d d' : Array α} (h : Blk0 cf tg s (r * s) d) (he : e ≤ d.size) (hae : r * s ≤ e) (hes : e ≤ r * s + s) (hp : PermIn (r * s) e d d') (hr : Rise cf tg (r * s) e d') : Blk0 cf tg s e d' := by
  have lo : ∀ i, i < r * s → d'[i]! = d[i]! := fun i hi => hp.2.1 i (Or.inl hi)
  have mid : ∀ i, r * s ≤ i → i < e → r * s ≤ tg d'[i]! ∧ tg d'[i]! < e := permIn_all d d' (r * s) e (fun x => r * s ≤ tg x ∧ tg x < e) he hp (fun i h1 h2 => by rw [h.rest i h1 (by omega)]; exact ⟨h1, h2⟩)
  refine ⟨fun q i h1 h2 h3 => ?_, fun q i j h1 h2 h3 h4 => ?_, fun i h1 h2 => ?_⟩
  · by_cases hi : i < r * s
    · rw [lo i hi]; exact h.own q i h1 h2 hi
    · have hqr : q = r := by
        rcases Nat.lt_trichotomy q r with hh | hh | hh
        · have := blk_lt (s := s) hh; omega
        · exact hh
        · have := blk_lt (s := s) hh; omega
      subst hqr
      have := mid i (by omega) h3
      omega
  · by_cases hj : j < r * s
    · rw [lo i (by omega), lo j hj]; exact h.up q i j h1 h2 h3 hj
    · have hqr : q = r := by
        rcases Nat.lt_trichotomy q r with hh | hh | hh
        · have := blk_lt (s := s) hh; omega
        · exact hh
        · have := blk_lt (s := s) hh; omega
      subst hqr
      exact hr i j h1 h2 h4
  · rw [hp.2.1 i (Or.inr h1)]
    exact h.rest i (by omega) (by rw [← hp.1]; exact h2)
theorem Blk0.whole {s : Nat} {d : Array α} (h : Blk0 cf tg s d.size d) : Blk cf tg s d := ⟨h.own, h.up⟩
theorem Blk.rise {s : Nat} {d : Array α} (h : Blk cf tg s d) (hs : d.size ≤ s) : Rise cf tg 0 d.size d := fun i j _ h2 h3 => h.up 0 i j (by omega) h2 (by omega) h3

structure Blk2 (cf : α → α → Int) (tg : α → Nat) (s a : Nat) (d : Array α) : Prop where
  own2 : ∀ q i, q * (2 * s) ≤ i → i < q * (2 * s) + 2 * s → i < d.size → q * (2 * s) ≤ tg d[i]! ∧ tg d[i]! < q * (2 * s) + 2 * s
  own : ∀ q i, a ≤ i → q * s ≤ i → i < q * s + s → i < d.size → q * s ≤ tg d[i]! ∧ tg d[i]! < q * s + s
  up2 : ∀ q i j, q * (2 * s) ≤ i → i < j → j < q * (2 * s) + 2 * s → j < a → Lx cf tg d[i]! d[j]!
  up : ∀ q i j, a ≤ i → q * s ≤ i → i < j → j < q * s + s → j < d.size → Lx cf tg d[i]! d[j]!
theorem twice (q s : Nat) : q * (2 * s) = 2 * q * s ∧ (2 * q + 1) * s = 2 * q * s + s := ⟨by rw [← Nat.mul_assoc, Nat.mul_comm q 2], by rw [Nat.succ_mul]⟩
theorem Blk2.start {s : Nat} {d : Array α} (h : Blk cf tg s d) : Blk2 cf tg s 0 d := by
  refine ⟨fun q i h1 h2 h3 => ?_, fun q i _ => h.own q i, fun q i j h1 h2 h3 h4 => by omega, fun q i j _ => h.up q i j⟩
  obtain ⟨e1, e2⟩ := twice q s
  by_cases hi : i < 2 * q * s + s
  · have := h.own (2 * q) i (by omega) hi h3; omega
  · have := h.own (2 * q + 1) i (by omega) (by omega) h3; omega
theorem Blk2.mrg {s r e : Nat} {d : Array α} (h : Blk2 cf tg s (r * (2 * s)) d) (hs : 0 < s) (he : e ≤ d.size) (h1 : r * (2 * s) + s < e) (h2 : e ≤ r * (2 * s) + 2 * s) : Mrg cf tg (r * (2 * s)) (r * (2 * s) + s) e d := by
  obtain ⟨e1, e2⟩ := twice r s
  refine ⟨by omega, h1, he, fun i j g1 g2 g3 => h.up (2 * r) i j g1 (by omega) g2 (by omega) (by omega), fun i j g1 g2 g3 => h.up (2 * r + 1) i j (by omega) (by omega) g2 (by omega) (by omega), fun i j g1 g2 g3 g4 => ?_⟩
  have a1 := h.own (2 * r) i g1 (by omega) (by omega) (by omega)
  have a2 := h.own (2 * r + 1) j (by omega) (by omega) (by omega) (by omega)
  omega
theorem Blk2.next {s r e : Nat} {d d' : Array α} (h : Blk2 cf tg s (r * (2 * s)) d) (he : e ≤ d.size) (h1 : r * (2 * s) ≤ e) (h2 : e ≤ r * (2 * s) + 2 * s) (h3 : e = r * (2 * s) + 2 * s ∨ e = d.size) (hp : PermIn (r * (2 * s)) e d d') (hr : Rise cf tg (r * (2 * s)) e d') : Blk2 cf tg s e d' := by
  obtain ⟨e1, e2⟩ := twice r s
  have lo : ∀ i, i < r * (2 * s) → d'[i]! = d[i]! := fun i hi => hp.2.1 i (Or.inl hi)
  have up : ∀ i, e ≤ i → d'[i]! = d[i]! := fun i hi => hp.2.1 i (Or.inr hi)
  have mid : ∀ i, r * (2 * s) ≤ i → i < e → r * (2 * s) ≤ tg d'[i]! ∧ tg d'[i]! < r * (2 * s) + 2 * s := permIn_all d d' _ e (fun x => r * (2 * s) ≤ tg x ∧ tg x < r * (2 * s) + 2 * s) he hp (fun i k1 k2 => h.own2 r i k1 (by omega) (by omega))
  have hsz := hp.1
  refine ⟨fun q i k1 k2 k3 => ?_, fun q i k0 k1 k2 k3 => ?_, fun q i j k1 k2 k3 k4 => ?_, fun q i j k0 k1 k2 k3 k4 => ?_⟩
  · by_cases hi : i < r * (2 * s)
    · rw [lo i hi]; exact h.own2 q i k1 k2 (by omega)
    · by_cases hie : i < e
      · have hqr : q = r := by
          rcases Nat.lt_trichotomy q r with hh | hh | hh
          · have := blk_lt (s := 2 * s) hh; omega
          · exact hh
          · have := blk_lt (s := 2 * s) hh; omega
        subst hqr
        exact mid i (by omega) hie
      · rw [up i (by omega)]; exact h.own2 q i k1 k2 (by omega)
  · rw [up i k0]; exact h.own q i (by omega) k1 k2 (by omega)
  · by_cases hj : j < r * (2 * s)
    · rw [lo i (by omega), lo j hj]; exact h.up2 q i j k1 k2 k3 hj
    · have hqr : q = r := by
        rcases Nat.lt_trichotomy q r with hh | hh | hh
        · have := blk_lt (s := 2 * s) hh; omega
        · exact hh
        · have := blk_lt (s := 2 * s) hh; omega
      subst hqr
      exact hr i j k1 k2 k4
  · rw [up i k0, up j (by omega)]; exact h.up q i j (by omega) k1 k2 k3 (by omega)
theorem Blk2.short {s r : Nat} {d : Array α} (h : Blk2 cf tg s (r * (2 * s)) d) (h1 : d.size ≤ r * (2 * s) + s) : Rise cf tg (r * (2 * s)) d.size d := by
  obtain ⟨e1, e2⟩ := twice r s
  exact fun i j g1 g2 g3 => h.up (2 * r) i j g1 (by omega) g2 (by omega) g3
theorem Blk2.whole {s a : Nat} {d : Array α} (h : Blk2 cf tg s a d) (ha : d.size ≤ a) : Blk cf tg (2 * s) d := ⟨h.own2, fun q i j h1 h2 h3 h4 => h.up2 q i j h1 h2 h3 (by omega)⟩
end Go.Proofs.YtckammgnmgkieaaGreat.Stb

/-
  The worlds of a sort in place: a row of the call's own, all else as it lay.
-/
namespace Go.Proofs.YtckammgnmgkieaaGreat
set_option maxRecDepth 20000
open Go.RowKit Go.Shelf Go.Sort Go.Lib
set_option linter.unusedSectionVars false

section
variable {α : Type} [Inhabited α]
structure SW (enc : α → List Value) (k : Nat) (w : World) (blk off : Nat) (d : Array α) (W : World) : Prop where
  row : HoldsK enc k W blk off d
  rest : w.grownBy W (some blk)
  lt : blk < w.heap.size
theorem SW.refl {enc : α → List Value} {k : Nat} {w : World} {blk off : Nat} {d : Array α} (h : HoldsK enc k w blk off d) (hlt : blk < w.heap.size) : SW enc k w blk off d w := ⟨h, kg_refl w _, hlt⟩
theorem SW.drew {enc : α → List Value} {k : Nat} {w W : World} {blk off : Nat} {d : Array α} (h : SW enc k w blk off d W) : SW enc k w blk off d W.drew := ⟨h.row, kg_trans h.rest (kg_drew W _), h.lt⟩
theorem kg_below {W W' : World} (r : Option Nat) (hb : Below W.heap.size W W') : W.grownBy W' r := ⟨hb.os, hb.tape, hb.output, hb.size, fun k hk _ => hb.block k hk⟩
theorem SW.lt' {enc : α → List Value} {k : Nat} {w W : World} {blk off : Nat} {d : Array α} (h : SW enc k w blk off d W) : blk < W.heap.size := Nat.lt_of_lt_of_le h.lt h.rest.size
theorem SW.below {enc : α → List Value} {k : Nat} {w W W' : World} {blk off : Nat} {d : Array α} (h : SW enc k w blk off d W) (hb : Below W.heap.size W W') : SW enc k w blk off d W' := by
  refine ⟨fun j hj => ?_, kg_trans h.rest (kg_below _ hb), h.lt⟩
  have h1 := h.row j hj
  exact ⟨(hb.cell (p := ⟨blk, off + j, none⟩) h.lt').trans h1.1, (hb.frozen (p := ⟨blk, off + j, none⟩) h.lt').trans h1.2⟩
theorem SW.trans {enc : α → List Value} {k : Nat} {w W W' : World} {blk off : Nat} {d d' : Array α} (h : SW enc k w blk off d W) (g : SW enc k W blk off d' W') : SW enc k w blk off d' W' := ⟨g.row, kg_trans h.rest g.rest, h.lt⟩
theorem kg_setCells (blk : Nat) : ∀ (vs : List Value) (o : Nat) (w : World), w.grownBy (w.setCells blk o vs) (some blk)
  | [], _, w => kg_refl w _
  | v :: r, o, w => by
    rw [World.setCells]
    exact kg_trans (kgrown_set w blk o v) (kg_setCells blk r (o + 1) _)
theorem SW.swap {enc : α → List Value} {k : Nat} {w W : World} {blk off : Nat} {d : Array α} (hk : ∀ x, (enc x).length = k) (h : SW enc k w blk off d W) (i j : Nat) (hi : i < d.size) (hj : j < d.size) :
    SW enc k w blk off (swp d i j) ((W.setCells blk (off + i * k) (enc d[j]!)).setCells blk (off + j * k) (enc d[i]!)) := by
  refine ⟨?_, kg_trans (kg_trans h.rest (kg_setCells _ _ _ _)) (kg_setCells _ _ _ _), h.lt⟩
  have e : (W.setCells blk (off + i * k) (enc d[j]!)).setCells blk (off + j * k) (enc d[i]!) = putRowK enc k W blk off (swp d i j) := by
    conv => lhs; rw [← putRowK_self enc k W blk off d h.row]
    exact putRowK_swp enc k hk W blk off d i j hi hj
  rw [e]
  exact holdsK_putRowK enc k W blk off d _ h.row (by rw [size_swp])
theorem holds_setCells_c {W : World} {blk off : Nat} {F : Array Value} (h : Holds id W blk off F) (s : Nat) (vs : List Value) (hs : s + vs.length ≤ F.size) : Holds id (W.setCells blk (off + s) vs) blk off (setMany F s vs) := by
  have e : W.setCells blk (off + s) vs = putRow id W blk off (setMany F s vs) := by
    conv => lhs; rw [← putRow_self id W blk off F h]
    exact setCells_putRow _ _ _ _ _ _ hs
  rw [e]
  exact holds_putRow id W blk off F _ h (by rw [size_setMany])
theorem SW.load {enc : α → List Value} {k : Nat} {w W : World} {blk off : Nat} {d : Array α} (P : Program) (hk : ∀ x, (enc x).length = k) (h : SW enc k w blk off d W) (i : Nat) (hi : i < d.size) :
    Sem.run P (loadCellsFrom ⟨blk, off + i * k, none⟩ 0 k #[]) W = .ok (enc d[i]!).toArray W := run_loadCellsFrom_list P _ _ _ k (hk _) (HoldsK.cells h.row hk hi)
theorem bnd_k {n x k : Nat} (hx : x < n) : x * k + k ≤ n * k := by
  have := Nat.mul_le_mul_right k (show x + 1 ≤ n from hx); rwa [Nat.add_mul, Nat.one_mul] at this
theorem SW.store1 {enc : α → List Value} {k : Nat} {w W : World} {blk off : Nat} {d : Array α} (P : Program) (hk : ∀ x, (enc x).length = k) (h1 : ∀ x, ∀ v ∈ enc x, v.oneCell' = true) (h : SW enc k w blk off d W) (i : Nat) (hi : i < d.size) (x : α) :
    Sem.run P (storeCells ⟨blk, off + i * k, none⟩ (enc x) 0) W = .ok () (W.setCells blk (off + i * k) (enc x)) := stores_of_holds P h.row (i * k) _ (by rw [hk, size_flatK]; exact bnd_k hi) (h1 _)
theorem SW.store2 {enc : α → List Value} {k : Nat} {w W : World} {blk off : Nat} {d : Array α} (P : Program) (hk : ∀ x, (enc x).length = k) (h1 : ∀ x, ∀ v ∈ enc x, v.oneCell' = true) (h : SW enc k w blk off d W) (i j : Nat) (hi : i < d.size) (hj : j < d.size) (x y : α) :
    Sem.run P (storeCells ⟨blk, off + j * k, none⟩ (enc y) 0) (W.setCells blk (off + i * k) (enc x)) = .ok () ((W.setCells blk (off + i * k) (enc x)).setCells blk (off + j * k) (enc y)) :=
  stores_of_holds P (holds_setCells_c h.row (i * k) _ (by rw [hk, size_flatK]; exact bnd_k hi)) (j * k) _ (by rw [hk, size_setMany, size_flatK]; exact bnd_k hj) (h1 _)
end
end Go.Proofs.YtckammgnmgkieaaGreat

/-
  What the library's sort asks of a program at a struct of k cells: its types; swapRange.
-/
namespace Go.Proofs.YtckammgnmgkieaaGreat
set_option maxRecDepth 20000
open Go.RowKit Go.Shelf Go.Sort Go.Lib
set_option linter.unusedVariables false
set_option linter.unusedSimpArgs false
set_option linter.unusedSectionVars false

structure SLay (P : Program) (k : Nat) : Prop where
  mixed : P.follows .mixedOrders = true
  t0 : P.underlying 0 = some (.tuple #[])
  a0 : ∀ w, (isAgg 0).run P w = .ok false w
  z0 : ∀ w, (Go.sizeOf 0).run P w = .ok 1 w
  v0 : ∀ w, (zeroValue 0).run P w = .ok (.tuple #[]) w
  t3 : P.underlying 3 = some (.int .i64)
  a3 : ∀ w, (isAgg 3).run P w = .ok false w
  z3 : ∀ w, (Go.sizeOf 3).run P w = .ok 1 w
  v3 : ∀ w, (zeroValue 3).run P w = .ok (.int .i64 0) w
  t4 : P.underlying 4 = some (.bool)
  a4 : ∀ w, (isAgg 4).run P w = .ok false w
  z4 : ∀ w, (Go.sizeOf 4).run P w = .ok 1 w
  v4 : ∀ w, (zeroValue 4).run P w = .ok (.bool false) w
  t85 : P.underlying 180 = some (.int .u64)
  a85 : ∀ w, (isAgg 180).run P w = .ok false w
  z85 : ∀ w, (Go.sizeOf 180).run P w = .ok 1 w
  v85 : ∀ w, (zeroValue 180).run P w = .ok (.int .u64 0) w
  t43 : P.underlying 22 = some (.slice 103)
  a43 : ∀ w, (isAgg 22).run P w = .ok false w
  z43 : ∀ w, (Go.sizeOf 22).run P w = .ok 1 w
  v43 : ∀ w, (zeroValue 22).run P w = .ok (.slice none 0 0) w
  t69 : P.underlying 171 = some (.func #[103, 103] #[3] false)
  a69 : ∀ w, (isAgg 171).run P w = .ok false w
  z69 : ∀ w, (Go.sizeOf 171).run P w = .ok 1 w
  v69 : ∀ w, (zeroValue 171).run P w = .ok (.nilFunc) w
  aE : ∀ w, (isAgg 103).run P w = .ok true w
  zE : ∀ w, (Go.sizeOf 103).run P w = .ok k w
theorem slay_here : SLay Tryz.prog 7 where
  mixed := by kernel_rfl
  t0 := Tryz.underlying0
  a0 := Tryz.isAgg0
  z0 := Tryz.sizeOf0
  v0 := Tryz.zeroValue0
  t3 := Tryz.underlying3
  a3 := Tryz.isAgg3
  z3 := Tryz.sizeOf3
  v3 := Tryz.zeroValue3
  t4 := Tryz.underlying4
  a4 := Tryz.isAgg4
  z4 := Tryz.sizeOf4
  v4 := Tryz.zeroValue4
  t85 := Tryz.underlying180
  a85 := Tryz.isAgg180
  z85 := Tryz.sizeOf180
  v85 := Tryz.zeroValue180
  t43 := Tryz.underlying22
  a43 := Tryz.isAgg22
  z43 := Tryz.sizeOf22
  v43 := Tryz.zeroValue22
  t69 := Tryz.underlying171
  a69 := Tryz.isAgg171
  z69 := Tryz.sizeOf171
  v69 := Tryz.zeroValue171
  aE := Tryz.isAgg103
  zE := Tryz.sizeOf103

variable {P : Program} {α : Type} [Inhabited α]

def SwrPost (enc : α → List Value) (k : Nat) (w : World) (blk off : Nat) (d : Array α) (a b n : Nat) (e : Ending) (w' : World) : Prop :=
  e = .returned (.tuple #[]) ∧ ∃ d' : Array α, d'.size = d.size ∧ (∀ x, x < d.size → d'[x]! = Stb.swr a b n (fun i => d[i]!) x) ∧ PermIn a (b + n) d d' ∧ SW enc k w blk off d' w'
structure SwrAt (enc : α → List Value) (k : Nat) (w : World) (blk off : Nat) (d : Array α) (a b i : Nat) (m : Nat) (dk : Array α) (W : World) : Prop where
  size : dk.size = d.size
  at_ : ∀ x, x < d.size → dk[x]! = Stb.swr a b i (fun i => d[i]!) x
  perm : PermIn a m d dk
  sw : SW enc k w blk off dk W

set_option maxHeartbeats 4000000 in
set_option maxRecDepth 1000000 in
theorem sort_swapRange {k : Nat} (L : SLay P k) (hF : P.funcs[217]? = some Tryz.f217) (enc : α → List Value) (hk : ∀ x, (enc x).length = k) (h1 : ∀ x, ∀ v ∈ enc x, v.oneCell' = true)
    (blk off cap a b n : Nat) (d : Array α) (fv : Value) (w : World) (hH : HoldsK enc k w blk off d) (hlt : blk < w.heap.size) (hab : a + n ≤ b) (hb : b + n ≤ d.size) (hsz : d.size < 4611686018427387904) :
    Calls P 217 #[.slice (some ⟨blk, off, none⟩) d.size cap, .int .i64 a, .int .i64 b, .int .i64 n, fv] w (SwrPost enc k w blk off d a b n) := by
  have mixed := L.mixed; have t0 := L.t0; have a0 := L.a0; have z0 := L.z0; have v0 := L.v0; have t3 := L.t3; have a3 := L.a3; have z3 := L.z3; have v3 := L.v3; have t4 := L.t4; have a4 := L.a4; have z4 := L.z4; have v4 := L.v4; have t85 := L.t85; have a85 := L.a85; have z85 := L.z85; have v85 := L.v85; have t43 := L.t43; have a43 := L.a43; have z43 := L.z43; have v43 := L.v43; have t69 := L.t69; have a69 := L.a69; have z69 := L.z69; have v69 := L.v69; have aE := L.aE; have zE := L.zE
  have u43 := run_underlying L.t43
  have HK := Lib.hid hk; have H1 := Lib.hid h1
  have HS0 : Hid (SwrAt enc k w blk off d a b 0 (b + n) d w) := Lib.hid ⟨rfl, fun x _ => (Stb.swr_zero a b _ x).symm, permIn_refl d a _, SW.refl hH hlt⟩
  clear hH hlt hk h1
  go_enter hF, Tryz.ntmps217
  go_wp2
  go_loopw [10] (fun vi wr => ∃ (i : Nat) (dk : Array α), vi = .int .i64 i ∧ i ≤ n ∧ Hid (SwrAt enc k w blk off d a b i (b + n) dk wr)) (fun vi _ => n - (intOf vi).toNat)
  case atStart => exact ⟨0, d, rfl, Nat.zero_le _, HS0⟩
  case round =>
    obtain ⟨i, dk, rfl, hi, HS⟩ := hrel
    by_cases hin : i < n
    · have hinz : (i : Int) < (n : Int) := by omega
      obtain ⟨xa, hxa⟩ : ∃ x, dk[a + i]! = x := ⟨_, rfl⟩
      obtain ⟨xb, hxb⟩ : ∃ x, dk[b + i]! = x := ⟨_, rfl⟩
      have hsk := HS.out.size
      have hD := HS.out.sw.drew
      have la := hD.load P HK.out (a + i) (by omega)
      have lb := hD.load P HK.out (b + i) (by omega)
      have s1 := hD.store1 P HK.out H1.out (a + i) (by omega) xb
      have s2 := hD.store2 P HK.out H1.out (a + i) (b + i) (by omega) (by omega) xb xa
      rw [hxa] at la
      rw [hxb] at lb
      have hsa : (enc xa).length = k := HK.out _
      have hsb : (enc xb).length = k := HK.out _
      have HN : Hid (SwrAt enc k w blk off d a b (i + 1) (b + n) (swp dk (a + i) (b + i)) ((wr.drew.setCells blk (off + (a + i) * k) (enc xb)).setCells blk (off + (b + i) * k) (enc xa))) := by
        have h := HS.out
        refine Lib.hid ⟨by rw [size_swp]; exact hsk, Stb.swr_step (by omega) (by omega) hsk h.at_, permIn_trans _ _ _ a (b + n) h.perm (swp_permIn dk a (b + n) (a + i) (b + i) (by omega) (by omega) (by omega) (by omega) (by omega)), ?_⟩
        have := hD.swap HK.out (a + i) (b + i) (by omega) (by omega)
        rwa [hxa, hxb] at this
      obtain ⟨ca, hca⟩ : ∃ c, c = enc xa := ⟨_, rfl⟩
      obtain ⟨cb, hcb⟩ : ∃ c, c = enc xb := ⟨_, rfl⟩
      rw [← hca] at la hsa
      rw [← hcb] at lb hsb s1
      rw [← hca, ← hcb] at s2 HN
      have ja : ((a : Int) + (i : Int)) < (d.size : Int) := by omega
      have jb : ((b : Int) + (i : Int)) < (d.size : Int) := by omega
      have pa : (0 : Int) ≤ (a : Int) + (i : Int) := by omega
      have pb : (0 : Int) ≤ (b : Int) + (i : Int) := by omega
      have ea : ((a : Int) + (i : Int)).toNat = a + i := by omega
      have eb : ((b : Int) + (i : Int)).toNat = b + i := by omega
      clear hca hcb hD hsk hxa hxb
      go_wp2_with fail
      go_big_region_o
      all_goals go_wp2
      go_roundw
      case measure => simp [intOf]; omega
      case rel => exact ⟨i + 1, _, by go_num, by omega, HN⟩
    · obtain rfl : i = n := by omega
      go_wp2
      go_end0
      have h := HS.out
      exact ⟨rfl, dk, h.size, h.at_, h.perm, h.sw⟩
end Go.Proofs.YtckammgnmgkieaaGreat

/-
  The library's sort in place at a struct: a turn of two neighbouring ranges.
-/
namespace Go.Proofs.YtckammgnmgkieaaGreat
set_option maxRecDepth 20000
open Go.RowKit Go.Shelf Go.Sort Go.Lib
set_option linter.unusedVariables false
set_option linter.unusedSimpArgs false
set_option linter.unusedSectionVars false
variable {P : Program} {α : Type} [Inhabited α]

def RotPost (enc : α → List Value) (k : Nat) (w : World) (blk off : Nat) (d : Array α) (a m b : Nat) (e : Ending) (w' : World) : Prop :=
  e = .returned (.tuple #[]) ∧ ∃ d' : Array α, d'.size = d.size ∧ (∀ x, x < d.size → d'[x]! = Stb.rot a m b (fun i => d[i]!) x) ∧ PermIn a b d d' ∧ SW enc k w blk off d' w'
structure RotAt (enc : α → List Value) (k : Nat) (w : World) (blk off : Nat) (d : Array α) (a m b i j : Nat) (dk : Array α) (W : World) : Prop where
  size : dk.size = d.size
  at_ : ∀ x, x < d.size → Stb.rot (m - i) m (m + j) (fun i => dk[i]!) x = Stb.rot a m b (fun i => d[i]!) x
  perm : PermIn a b d dk
  sw : SW enc k w blk off dk W
theorem RotAt.step {enc : α → List Value} {k : Nat} {w : World} {blk off : Nat} {d : Array α} {a m b i j : Nat} {dk : Array α} {W W' : World} (h : RotAt enc k w blk off d a m b i j dk W) {p q n i' j' : Nat} {d' : Array α}
    (hs : d'.size = dk.size) (hd : ∀ x, x < dk.size → d'[x]! = Stb.swr p q n (fun i => dk[i]!) x) (hp : PermIn p (q + n) dk d') (hw : SW enc k W blk off d' W') (hap : a ≤ p) (hqb : q + n ≤ b) (hb : b ≤ d.size) (hj : j' ≤ b - m) (him : i' ≤ m)
    (hr : ∀ x, Stb.rot (m - i') m (m + j') (Stb.swr p q n (fun i => dk[i]!)) x = Stb.rot (m - i) m (m + j) (fun i => dk[i]!) x) (hmb : m ≤ b) : RotAt enc k w blk off d a m b i' j' d' W' := by
  have hsz := h.size
  refine ⟨hs.trans hsz, fun x hx => ?_, permIn_trans _ _ _ a b h.perm (permIn_mono _ _ p (q + n) a b hap hqb (by omega) hp), h.sw.trans hw⟩
  rw [Stb.rot_congr (n := d.size) (f := fun i => d'[i]!) (g := Stb.swr p q n (fun i => dk[i]!)) (by omega) (by omega) (by omega) (fun y hy => hd y (by omega)) x hx, hr, h.at_ x hx]

set_option maxHeartbeats 4000000 in
set_option maxRecDepth 1000000 in
theorem sort_rotate {k : Nat} (L : SLay P k) (hF : P.funcs[216]? = some Tryz.f216) (hFs : P.funcs[217]? = some Tryz.f217)
    (e100 : ∀ args w, (callFunc 217 args).run P w = .ok (.enter 217 args) w) (enc : α → List Value) (hk : ∀ x, (enc x).length = k) (h1 : ∀ x, ∀ v ∈ enc x, v.oneCell' = true)
    (blk off cap a m b : Nat) (d : Array α) (fv : Value) (w : World) (hH : HoldsK enc k w blk off d) (hlt : blk < w.heap.size) (ham : a < m) (hmb : m < b) (hb : b ≤ d.size) (hsz : d.size < 4611686018427387904) :
    Calls P 216 #[.slice (some ⟨blk, off, none⟩) d.size cap, .int .i64 a, .int .i64 m, .int .i64 b, fv] w (RotPost enc k w blk off d a m b) := by
  have mixed := L.mixed; have t0 := L.t0; have a0 := L.a0; have z0 := L.z0; have v0 := L.v0; have t3 := L.t3; have a3 := L.a3; have z3 := L.z3; have v3 := L.v3; have t4 := L.t4; have a4 := L.a4; have z4 := L.z4; have v4 := L.v4; have t85 := L.t85; have a85 := L.a85; have z85 := L.z85; have v85 := L.v85; have t43 := L.t43; have a43 := L.a43; have z43 := L.z43; have v43 := L.v43; have t69 := L.t69; have a69 := L.a69; have z69 := L.z69; have v69 := L.v69; have aE := L.aE; have zE := L.zE
  have u43 := run_underlying L.t43
  have HC := Lib.hid (fun (W : World) (dk : Array α) (p q n : Nat) (hs : dk.size = d.size) (hW : SW enc k w blk off dk W) (h1' : p + n ≤ q) (h2 : q + n ≤ d.size) => hs ▸ sort_swapRange L hFs enc hk h1 blk off cap p q n dk fv W hW.row hW.lt' h1' (by omega) (by omega))
  have HS0 : Hid (RotAt enc k w blk off d a m b (m - a) (b - m) d w) := Lib.hid ⟨rfl, fun x _ => by rw [show m - (m - a) = a by omega, show m + (b - m) = b by omega], permIn_refl d a _, SW.refl hH hlt⟩
  clear hH hlt hk h1
  have c1 : (m : Int) - (a : Int) = ((m - a : Nat) : Int) := by omega
  have c2 : (b : Int) - (m : Int) = ((b - m : Nat) : Int) := by omega
  have C1 := Lib.hid c1; have C2 := Lib.hid c2
  clear c1 c2
  go_enter hF, Tryz.ntmps216
  go_wp2
  go_loopw [10, 11] (fun vi vj wr => ∃ (i j : Nat) (dk : Array α), vi = .int .i64 i ∧ vj = .int .i64 j ∧ 0 < i ∧ 0 < j ∧ i ≤ m - a ∧ j ≤ b - m ∧ Hid (RotAt enc k w blk off d a m b i j dk wr)) (fun vi vj _ => (intOf vi).toNat + (intOf vj).toNat)
  case atStart => exact ⟨m - a, b - m, d, by rw [C1.out], by rw [C2.out], by omega, by omega, Nat.le_refl _, Nat.le_refl _, HS0⟩
  case round =>
    obtain ⟨i, j, dk, rfl, rfl, hi0, hj0, hi, hj, HS⟩ := hrel
    have hsk := HS.out.size
    have SK := Lib.hid hsk
    clear hsk
    rcases Nat.lt_trichotomy i j with hij | hij | hij
    · have hne : ¬ (i : Int) = (j : Int) := by omega
      have hgt : ¬ (j : Int) < (i : Int) := by omega
      have hc := HC.out wr dk (m - i) (m + j - i) i SK.out HS.out.sw (by omega) (by omega)
      have e1 : ((m - i : Nat) : Int) = (m : Int) - (i : Int) := by omega
      have e2 : ((m + j - i : Nat) : Int) = (m : Int) + (j : Int) - (i : Int) := by omega
      rw [e1, e2] at hc
      clear e1 e2
      go_wp2_with (go_at_fn 217; refine hc.mono ?_; rintro e w' ⟨rfl, d', g1, g2, g3, g4⟩)
      have HN : Hid (RotAt enc k w blk off d a m b i (j - i) d' w') := Lib.hid (HS.out.step g1 g2 g3 g4 (by omega) (by omega) hb (by omega) (by omega) (fun x => Stb.rot_lt _ (by omega) hij x) (by omega))
      clear g1 g2 g3 g4 hc
      go_roundw
      case measure => simp [intOf]; omega
      case rel => exact ⟨i, j - i, d', rfl, by (congr 1; omega), hi0, by omega, hi, by omega, HN⟩
    · subst hij
      have hc := HC.out wr dk (m - i) m i SK.out HS.out.sw (by omega) (by omega)
      have e1 : ((m - i : Nat) : Int) = (m : Int) - (i : Int) := by omega
      rw [e1] at hc
      clear e1
      go_wp2_with (go_at_fn 217; refine hc.mono ?_; rintro e w' ⟨rfl, d', g1, g2, g3, g4⟩)
      go_end0
      have h := HS.out
      have hs := SK.out
      refine ⟨rfl, d', g1.trans hs, fun x hx => ?_, permIn_trans _ _ _ a b h.perm (permIn_mono _ _ (m - i) (m + i) a b (by omega) (by omega) (by omega) g3), h.sw.trans g4⟩
      rw [g2 x (by omega), Stb.rot_eq _ (by omega), h.at_ x hx]
    · have hne : ¬ (i : Int) = (j : Int) := by omega
      have hgt : (j : Int) < (i : Int) := by omega
      have hc := HC.out wr dk (m - i) m j SK.out HS.out.sw (by omega) (by omega)
      have e1 : ((m - i : Nat) : Int) = (m : Int) - (i : Int) := by omega
      rw [e1] at hc
      clear e1
      go_wp2_with (go_at_fn 217; refine hc.mono ?_; rintro e w' ⟨rfl, d', g1, g2, g3, g4⟩)
      have HN : Hid (RotAt enc k w blk off d a m b (i - j) j d' w') := Lib.hid (HS.out.step g1 g2 g3 g4 (by omega) (by omega) hb (by omega) (by omega) (fun x => Stb.rot_gt _ (by omega) hij x) (by omega))
      clear g1 g2 g3 g4 hc
      go_roundw
      case measure => simp [intOf]; omega
      case rel => exact ⟨i - j, j, d', by (congr 1; omega), rfl, by omega, hj0, by omega, hj, HN⟩
end Go.Proofs.YtckammgnmgkieaaGreat

/-
  Plain facts for types and numbers: digits, decimals read and written, letters great and small, the names of types.
-/
namespace Go.Proofs.YtckammgnmgkieaaGreat
set_option maxRecDepth 20000
open Go.RowKit Go.Shelf


def typeT (j : Nat) : Int := [1, 2, 5, 6, 12, 15, 16, 28, 39].getD j 0
def typeS (j : Nat) : List UInt8 := ([[65], [78, 83], [67, 78, 65, 77, 69], [83, 79, 65], [80, 84, 82], [77, 88], [84, 88, 84], [65, 65, 65, 65], [68, 78, 65, 77, 69]] : List (List UInt8)).getD j []
end Go.Proofs.YtckammgnmgkieaaGreat

