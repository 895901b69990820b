/-
  Plain facts of a stable sort by merging in place: elements with a place of their own (tg), an order cf.
-/
import Derived.Sort.LotA
import Derived.Test.YtfcdajldpnomfaaRows
import Derived.RangeFuncNested
import Derived.RangeFuncBound
import Derived.RangeFuncCalls
import Derived.RangeFuncLeaves
import Derived.RangeFuncBox
import Derived.Shelf.Abstract
import Derived.Shelf.RegionOpen
import Derived.WalkKit
import Derived.WalkSpells
import Derived.WalkLawsBesides
import Derived.OwnWalkIn
import Derived.TacticsInMore
import Derived.LoopNIn
import Derived.LoopIn
import Derived.Maps.AppendAt
import Derived.BigQuiet
import Derived.Lib.Hide
import Derived.Lib.BufferRead
namespace Go.Proofs.Ytfcdajldpnomfaa.Stb
open Go.Sort
set_option linter.unusedSectionVars false
variable {α : Type} [Inhabited α]

structure COrd (cf : α → α → Int) : Prop where
  anti : ∀ x y, cf y x = - cf x y
  trans : ∀ x y z, cf x y ≤ 0 → cf y z ≤ 0 → cf x z ≤ 0

def Lx (cf : α → α → Int) (tg : α → Nat) (x y : α) : Prop := cf x y < 0 ∨ (cf x y = 0 ∧ tg x < tg y)

section
variable {cf : α → α → Int} {tg : α → Nat}
omit [Inhabited α] in
theorem Lx.trans (h : COrd cf) {x y z : α} (h1 : Lx cf tg x y) (h2 : Lx cf tg y z) : Lx cf tg x z := by
  have a1 := h.anti x y; have a2 := h.anti y z; have a3 := h.anti x z
  have t1 := h.trans x y z; have t2 := h.trans z x y; have t3 := h.trans y z x
  unfold Lx at *
  rcases h1 with h1 | ⟨h1, g1⟩ <;> rcases h2 with h2 | ⟨h2, g2⟩ <;> omega
omit [Inhabited α] in
theorem Lx.irrefl (h : COrd cf) (x : α) : ¬ Lx cf tg x x := by
  have := h.anti x x
  unfold Lx; omega
omit [Inhabited α] in
theorem Lx.of_not (h : COrd cf) {x y : α} (ht : tg x < tg y) (hn : ¬ cf y x < 0) : Lx cf tg x y := by
  have := h.anti x y
  unfold Lx; omega
omit [Inhabited α] in
theorem Lx.of_lt {x y : α} (hn : cf y x < 0) : Lx cf tg y x := Or.inl hn

def Rise (cf : α → α → Int) (tg : α → Nat) (a b : Nat) (d : Array α) : Prop := ∀ i j, a ≤ i → i < j → j < b → Lx cf tg d[i]! d[j]!

theorem Rise.congr {a b : Nat} {d d' : Array α} (h : Rise cf tg a b d) (he : ∀ x, a ≤ x → x < b → d'[x]! = d[x]!) : Rise cf tg a b d' := fun i j h1 h2 h3 => by
  rw [he i h1 (by omega), he j (by omega) h3]; exact h i j h1 h2 h3
theorem Rise.sub {a b a' b' : Nat} {d : Array α} (h : Rise cf tg a b d) (h1 : a ≤ a') (h2 : b' ≤ b) : Rise cf tg a' b' d := fun i j g1 g2 g3 => h i j (by omega) g2 (by omega)
/-- Rising ahead of a place and behind it, and across. -/
theorem Rise.join {a m b : Nat} {d : Array α} (h1 : Rise cf tg a m d) (h2 : Rise cf tg m b d) (h3 : ∀ i j, a ≤ i → i < m → m ≤ j → j < b → Lx cf tg d[i]! d[j]!) : Rise cf tg a b d := fun i j g1 g2 g3 => by
  by_cases hj : j < m
  · exact h1 i j g1 g2 hj
  · by_cases hi : i < m
    · exact h3 i j g1 hi (by omega) g3
    · exact h2 i j (by omega) g2 g3

/-! swapRange -/
def swr (a b n : Nat) (f : Nat → α) (x : Nat) : α := if a ≤ x ∧ x < a + n then f (x + (b - a)) else if b ≤ x ∧ x < b + n then f (x - (b - a)) else f x
theorem swr_zero (a b : Nat) (f : Nat → α) (x : Nat) : swr a b 0 f x = f x := by
  unfold swr; rw [if_neg (by omega), if_neg (by omega)]
theorem swr_step {a b n : Nat} {d dk : Array α} (hab : a + n < b) (hb : b + n < d.size) (hs : dk.size = d.size) (h : ∀ x, x < d.size → dk[x]! = swr a b n (fun i => d[i]!) x) :
    ∀ x, x < d.size → (swp dk (a + n) (b + n))[x]! = swr a b (n + 1) (fun i => d[i]!) x := by
  intro x hx
  rw [swp_get dk (by omega) (by omega), h (a + n) (by omega), h (b + n) hb, h x hx]
  unfold swr
  (try dsimp only)
  repeat' split
  all_goals first | (exfalso; omega) | rfl | (congr 1; omega)

/-! rotate -/
def rot (a m b : Nat) (f : Nat → α) (x : Nat) : α := if a ≤ x ∧ x < a + (b - m) then f (x + (m - a)) else if a + (b - m) ≤ x ∧ x < b then f (x - (b - m)) else f x
theorem rot_gt {m i j : Nat} (f : Nat → α) (hm : i ≤ m) (hij : j < i) (x : Nat) : rot (m - (i - j)) m (m + j) (swr (m - i) m j f) x = rot (m - i) m (m + j) f x := by
  unfold rot swr
  (try dsimp only)
  repeat' split
  all_goals first | (exfalso; omega) | rfl | (congr 1; omega)
theorem rot_lt {m i j : Nat} (f : Nat → α) (hm : i ≤ m) (hij : i < j) (x : Nat) : rot (m - i) m (m + (j - i)) (swr (m - i) (m + j - i) i f) x = rot (m - i) m (m + j) f x := by
  unfold rot swr
  (try dsimp only)
  repeat' split
  all_goals first | (exfalso; omega) | rfl | (congr 1; omega)
theorem rot_eq {m i : Nat} (f : Nat → α) (hm : i ≤ m) (x : Nat) : swr (m - i) m i f x = rot (m - i) m (m + i) f x := by
  unfold rot swr
  repeat' split
  all_goals first | (exfalso; omega) | rfl | (congr 1; omega)
theorem rot_congr {a m b n : Nat} {f g : Nat → α} (hm : a ≤ m) (hmb : m ≤ b) (hb : b ≤ n) (h : ∀ x, x < n → f x = g x) (x : Nat) (hx : x < n) : rot a m b f x = rot a m b g x := by
  unfold rot
  repeat' split
  all_goals exact h _ (by omega)
theorem rot_left {m b : Nat} (f : Nat → α) (x : Nat) : rot m m b f x = f x := by
  unfold rot
  repeat' split
  all_goals first | (exfalso; omega) | rfl | (congr 1; omega)
theorem rot_right {a m : Nat} (f : Nat → α) (x : Nat) : rot a m m f x = f x := by
  unfold rot
  repeat' split
  all_goals first | (exfalso; omega) | rfl | (congr 1; omega)

/-! The two shifts. -/
def shu (a k : Nat) (f : Nat → α) (x : Nat) : α := if a ≤ x ∧ x < k then f (x + 1) else if x = k then f a else f x
theorem shu_zero (a : Nat) (f : Nat → α) (x : Nat) : shu a a f x = f x := by
  unfold shu
  repeat' split
  all_goals first | (exfalso; omega) | rfl | (congr 1; omega)
theorem shu_step {a k : Nat} {d dk : Array α} (hak : a ≤ k) (hk : k + 1 < d.size) (hs : dk.size = d.size) (h : ∀ x, x < d.size → dk[x]! = shu a k (fun i => d[i]!) x) :
    ∀ x, x < d.size → (swp dk k (k + 1))[x]! = shu a (k + 1) (fun i => d[i]!) x := by
  intro x hx
  rw [swp_get dk (by omega) (by omega), h k (by omega), h (k + 1) hk, h x hx]
  unfold shu
  (try dsimp only)
  repeat' split
  all_goals first | (exfalso; omega) | rfl | (congr 1; omega)
def shd (k m : Nat) (f : Nat → α) (x : Nat) : α := if k < x ∧ x ≤ m then f (x - 1) else if x = k then f m else f x
theorem shd_zero (m : Nat) (f : Nat → α) (x : Nat) : shd m m f x = f x := by
  unfold shd
  repeat' split
  all_goals first | (exfalso; omega) | rfl | (congr 1; omega)
theorem shd_step {k m : Nat} {d dk : Array α} (hkm : k + 1 ≤ m) (hm : m < d.size) (hs : dk.size = d.size) (h : ∀ x, x < d.size → dk[x]! = shd (k + 1) m (fun i => d[i]!) x) :
    ∀ x, x < d.size → (swp dk (k + 1) k)[x]! = shd k m (fun i => d[i]!) x := by
  intro x hx
  rw [swp_get dk (by omega) (by omega), h k (by omega), h (k + 1) (by omega), h x hx]
  unfold shd
  (try dsimp only)
  repeat' split
  all_goals first | (exfalso; omega) | rfl | (congr 1; omega)

/-! What merging is asked, and what it owes. -/
structure Mrg (cf : α → α → Int) (tg : α → Nat) (a m b : Nat) (d : Array α) : Prop where
  am : a < m
  mb : m < b
  bs : b ≤ d.size
  l : Rise cf tg a m d
  r : Rise cf tg m b d
  x : ∀ i j, a ≤ i → i < m → m ≤ j → j < b → tg d[i]! < tg d[j]!

/-- One element ahead: put where the search says. -/
theorem Mrg.one (hO : COrd cf) {a b i : Nat} {d d' : Array α} (h : Mrg cf tg a (a + 1) b d) (hi : a + 1 ≤ i) (hib : i ≤ b)
    (h1 : i = a + 1 ∨ cf d[i - 1]! d[a]! < 0) (h2 : i = b ∨ ¬ cf d[i]! d[a]! < 0) (hd : ∀ x, x < d.size → d'[x]! = shu a (i - 1) (fun k => d[k]!) x) : Rise cf tg a b d' := by
  have hb := h.bs
  have lo : ∀ k, a + 1 ≤ k → k < i → Lx cf tg d[k]! d[a]! := fun k g1 g2 => by
    rcases h1 with h1 | h1
    · omega
    · by_cases e : k = i - 1
      · subst e; exact Or.inl h1
      · exact (h.r k (i - 1) g1 (by omega) (by omega)).trans hO (Or.inl h1)
  have hi' : ∀ k, i ≤ k → k < b → Lx cf tg d[a]! d[k]! := fun k g1 g2 => by
    rcases h2 with h2 | h2
    · omega
    · have hx : Lx cf tg d[a]! d[i]! := Lx.of_not hO (h.x a i (Nat.le_refl _) (by omega) (by omega) (by omega)) h2
      by_cases e : k = i
      · subst e; exact hx
      · exact hx.trans hO (h.r i k (by omega) (by omega) g2)
  intro p q g1 g2 g3
  rw [hd p (by omega), hd q (by omega)]
  unfold shu
  (try dsimp only)
  repeat' split
  all_goals first
    | (exfalso; omega)
    | exact h.r _ _ (by omega) (by omega) (by omega)
    | exact lo _ (by omega) (by omega)
    | exact hi' _ (by omega) (by omega)

/-- One element behind: put where the search says. -/
theorem Mrg.last (hO : COrd cf) {a m i : Nat} {d d' : Array α} (h : Mrg cf tg a m (m + 1) d) (hi : a ≤ i) (hib : i ≤ m)
    (h1 : i = a ∨ ¬ cf d[m]! d[i - 1]! < 0) (h2 : i = m ∨ cf d[m]! d[i]! < 0) (hd : ∀ x, x < d.size → d'[x]! = shd i m (fun k => d[k]!) x) : Rise cf tg a (m + 1) d' := by
  have hb := h.bs
  have hm := h.am
  have lo : ∀ k, a ≤ k → k < i → Lx cf tg d[k]! d[m]! := fun k g1 g2 => by
    rcases h1 with h1 | h1
    · omega
    · have hx : Lx cf tg d[i - 1]! d[m]! := Lx.of_not hO (h.x (i - 1) m (by omega) (by omega) (Nat.le_refl _) (by omega)) h1
      by_cases e : k = i - 1
      · subst e; exact hx
      · exact (h.l k (i - 1) g1 (by omega) (by omega)).trans hO hx
  have hi' : ∀ k, i ≤ k → k < m → Lx cf tg d[m]! d[k]! := fun k g1 g2 => by
    rcases h2 with h2 | h2
    · omega
    · by_cases e : k = i
      · subst e; exact Or.inl h2
      · exact Lx.trans hO (Or.inl h2) (h.l i k (by omega) (by omega) g2)
  intro p q g1 g2 g3
  rw [hd p (by omega), hd q (by omega)]
  unfold shd
  (try dsimp only)
  repeat' split
  all_goals first
    | (exfalso; omega)
    | exact h.l _ _ (by omega) (by omega) (by omega)
    | exact lo _ (by omega) (by omega)
    | exact hi' _ (by omega) (by omega)

/-- The middle that is found. -/
structure Cutp (cf : α → α → Int) (a m b mid s : Nat) (d : Array α) : Prop where
  lo : a ≤ s
  hi : s ≤ mid
  sm : s ≤ m
  e : mid + m - s ≤ b
  p1 : s = a ∨ mid + m - s = b ∨ ¬ cf d[mid + m - s]! d[s - 1]! < 0
  p2 : s = m ∨ s = mid ∨ cf d[mid + m - s - 1]! d[s]! < 0

/-- Behind the turn each half is one merging more, and the one half is ahead of the other. -/
theorem Mrg.turned (hO : COrd cf) {a m b mid s : Nat} {d d' : Array α} (h : Mrg cf tg a m b d) (c : Cutp cf a m b mid s d) (ham : a < mid) (hmb : mid < b)
    (hs : d'.size = d.size) (hd : ∀ x, x < d.size → d'[x]! = rot s m (mid + m - s) (fun k => d[k]!) x) :
    (a < s → s < mid → Mrg cf tg a s mid d') ∧ (¬ (a < s ∧ s < mid) → Rise cf tg a mid d') ∧ (mid < mid + m - s → mid + m - s < b → Mrg cf tg mid (mid + m - s) b d') ∧ (¬ (mid < mid + m - s ∧ mid + m - s < b) → Rise cf tg mid b d') ∧
    (∀ i j, a ≤ i → i < mid → mid ≤ j → j < b → Lx cf tg d'[i]! d'[j]!) := by
  have hb := h.bs
  have am := h.am
  have mb := h.mb
  obtain ⟨lo, hi, sm, e, p1, p2⟩ := c
  have g : ∀ x, x < b → d'[x]! = if s ≤ x ∧ x < mid then d[x + (m - s)]! else if mid ≤ x ∧ x < mid + m - s then d[x - (mid - s)]! else d[x]! := fun x hx => by
    rw [hd x (by omega)]
    unfold rot
    (try dsimp only)
    repeat' split
    all_goals first | (exfalso; omega) | rfl | (congr 1; omega)
  have A1 : Rise cf tg a s d' := h.l.sub (Nat.le_refl _) sm |>.congr fun x h1 h2 => by rw [g x (by omega), if_neg (by omega), if_neg (by omega)]
  have A2 : Rise cf tg s mid d' := fun i j h1 h2 h3 => by
    rw [g i (by omega), g j (by omega), if_pos (by omega), if_pos (by omega)]
    exact h.r _ _ (by omega) (by omega) (by omega)
  have B1 : Rise cf tg mid (mid + m - s) d' := fun i j h1 h2 h3 => by
    rw [g i (by omega), g j (by omega), if_neg (by omega), if_pos (by omega), if_neg (by omega), if_pos (by omega)]
    exact h.l _ _ (by omega) (by omega) (by omega)
  have B2 : Rise cf tg (mid + m - s) b d' := fun i j h1 h2 h3 => by
    rw [g i (by omega), g j (by omega), if_neg (by omega), if_neg (by omega), if_neg (by omega), if_neg (by omega)]
    exact h.r _ _ (by omega) (by omega) (by omega)
  refine ⟨fun k1 k2 => ⟨k1, k2, by omega, A1, A2, fun i j h1 h2 h3 h4 => ?_⟩, fun hn => ?_, fun k1 k2 => ⟨k1, k2, by omega, B1, B2, fun i j h1 h2 h3 h4 => ?_⟩, fun hn => ?_, fun i j h1 h2 h3 h4 => ?_⟩
  · rw [g i (by omega), g j (by omega), if_neg (by omega), if_neg (by omega), if_pos (by omega)]
    exact h.x _ _ (by omega) (by omega) (by omega) (by omega)
  · by_cases hsa : s = a
    · exact hsa ▸ A2
    · have : s = mid := by omega
      exact this ▸ A1
  · rw [g i (by omega), g j (by omega), if_neg (by omega), if_pos (by omega), if_neg (by omega), if_neg (by omega)]
    exact h.x _ _ (by omega) (by omega) (by omega) (by omega)
  · by_cases hsa : s = m
    · have : mid + m - s = mid := by omega
      exact this ▸ B2
    · have : mid + m - s = b := by omega
      exact this ▸ B1
  · rw [g i (by omega), g j (by omega)]
    -- of the four pairs
    have X1 : ∀ u v, a ≤ u → u < s → mid + m - s ≤ v → v < b → Lx cf tg d[u]! d[v]! := fun u v q1 q2 q3 q4 => by
      rcases p1 with p1 | p1 | p1
      · omega
      · omega
      · have hx : Lx cf tg d[s - 1]! d[mid + m - s]! := Lx.of_not hO (h.x _ _ (by omega) (by omega) (by omega) (by omega)) p1
        have h5 : Lx cf tg d[u]! d[mid + m - s]! := by
          by_cases e : u = s - 1
          · subst e; exact hx
          · exact (h.l u (s - 1) q1 (by omega) (by omega)).trans hO hx
        by_cases e : v = mid + m - s
        · subst e; exact h5
        · exact h5.trans hO (h.r _ v (by omega) (by omega) q4)
    have X2 : ∀ u v, m ≤ u → u < mid + m - s → s ≤ v → v < m → Lx cf tg d[u]! d[v]! := fun u v q1 q2 q3 q4 => by
      rcases p2 with p2 | p2 | p2
      · omega
      · omega
      · have h5 : Lx cf tg d[u]! d[s]! := by
          by_cases e : u = mid + m - s - 1
          · subst e; exact Or.inl p2
          · exact (h.r u (mid + m - s - 1) q1 (by omega) (by omega)).trans hO (Or.inl p2)
        by_cases e : v = s
        · subst e; exact h5
        · exact h5.trans hO (h.l s v (by omega) (by omega) q4)
    repeat' split
    all_goals first
      | (exfalso; omega)
      | exact X1 _ _ (by omega) (by omega) (by omega) (by omega)
      | exact X2 _ _ (by omega) (by omega) (by omega) (by omega)
      | exact h.l _ _ (by omega) (by omega) (by omega)
      | exact h.r _ _ (by omega) (by omega) (by omega)

/-- .. and behind both mergings all rises. -/
theorem rise_both (a mid b : Nat) {d1 d2 d3 : Array α} (hmb : mid ≤ b) (hb : b ≤ d1.size) (hx : ∀ i j, a ≤ i → i < mid → mid ≤ j → j < b → Lx cf tg d1[i]! d1[j]!)
    (h1 : PermIn a mid d1 d2) (r1 : Rise cf tg a mid d2) (h2 : PermIn mid b d2 d3) (r2 : Rise cf tg mid b d3) : Rise cf tg a b d3 := by
  have k1 : ∀ i, a ≤ i → i < mid → ∀ j, mid ≤ j → j < b → Lx cf tg d2[i]! d1[j]! := permIn_all d1 d2 a mid (fun x => ∀ j, mid ≤ j → j < b → Lx cf tg x d1[j]!) (by omega) h1 (fun i q1 q2 j q3 q4 => hx i j q1 q2 q3 q4)
  have k2 : ∀ j, mid ≤ j → j < b → ∀ i, a ≤ i → i < mid → Lx cf tg d2[i]! d3[j]! := permIn_all d2 d3 mid b (fun y => ∀ i, a ≤ i → i < mid → Lx cf tg d2[i]! y) (by rw [h1.1]; omega) h2 (fun j q1 q2 i q3 q4 => by rw [h1.2.1 j (Or.inr q1)]; exact k1 i q3 q4 j q1 q2)
  refine Rise.join (r1.congr fun x q1 q2 => h2.2.1 x (Or.inl q2)) r2 fun i j q1 q2 q3 q4 => ?_
  rw [h2.2.1 i (Or.inl q2)]
  exact k2 j q3 q4 i q1 q2
end
end Go.Proofs.Ytfcdajldpnomfaa.Stb

/-
  Small facts on bytes, strings and slices of bytes that the call itself owns: used by all walks of this seat.
-/
namespace Go.Proofs.Ytfcdajldpnomfaa
set_option maxRecDepth 20000
open Go.RowKit Go.Shelf

theorem ret_int {k : IntKind} {a b : Int} (h : a = b) : Ending.returned (.int k a) = .returned (.int k b) := by rw [h]
theorem ret_bool {a b : Bool} (h : a = b) : Ending.returned (.bool a) = .returned (.bool b) := by rw [h]
theorem ret_str {a b : ByteArray} (h : a.data.toList = b.data.toList) : Ending.returned (.string a) = .returned (.string b) := by
  obtain ⟨⟨a⟩⟩ := a; obtain ⟨⟨b⟩⟩ := b; simp at h; rw [h]
theorem toList_data (s : ByteArray) : s.toList = s.data.toList := ByteArray.toList_eq s
theorem isEmpty_true {s : ByteArray} (h : s.toList.isEmpty = true) : s.data.toList = [] := by
  rw [toList_data] at h; simpa using h
theorem isEmpty_false {s : ByteArray} (h : s.toList.isEmpty = false) : s.data.toList ≠ [] := by
  rw [toList_data] at h; intro e; rw [e] at h; simp at h
theorem take_snoc_get (s : ByteArray) (k : Nat) (h : k < s.size) : s.data.toList.take (k + 1) = s.data.toList.take k ++ [s[k]] := by
  rw [List.take_succ_eq_append_getElem (by simpa using h)]; rfl
theorem drop_cons_get (s : ByteArray) (k : Nat) (h : k < s.size) : s.data.toList.drop k = s[k] :: s.data.toList.drop (k + 1) := by
  rw [List.drop_eq_getElem_cons (by simpa using h)]; rfl
theorem size_data (s : ByteArray) : s.data.toList.length = s.size := rfl

/-- A byte as a slot or a cell holds it. -/
def bv (c : UInt8) : Value := .int .u8 (c.toNat : Int)
theorem bv_one (l : List UInt8) : ∀ u ∈ l.map bv, u.oneCell' = true := by
  intro u hu; obtain ⟨c, _, rfl⟩ := List.mem_map.1 hu; rfl

theorem cells_new (w : World) (l : List Value) (T : TypeId) : ∀ j u, l[j]? = some u → (w.alloc (.cells l.toArray T)).cell? ((⟨w.heap.size, 0, none⟩ : Addr).add j) = some u := by
  intro j u h
  have hn := World.alloc_heap_new w (.cells l.toArray T)
  have e : ((⟨w.heap.size, 0, none⟩ : Addr).add j) = ⟨w.heap.size, j, none⟩ := by unfold Addr.add; by_cases hj : j = 0 <;> simp [hj]
  rw [e]
  unfold World.cell?
  rw [hn]
  simpa using h

theorem info_u8 : (Try.prog.info? 5).map (fun i => (i.zero, i.size, i.bytes)) = some (some (.int .u8 0), 1, 1) := by kernel_rfl

/-- What a call has done to memory below B and to the row that v owns. -/
theorem grownBy_of_alloc {W w' : World} {o : Obj} {row : Option Nat} (h : (W.alloc o).grownBy w' row) : W.grownBy w' row :=
  ⟨h.os, h.tape, h.output, by have := h.size; simp at this; omega, fun k hk hne => by
    rw [h.block k (by simp; omega) hne]
    exact (World.grownBy_alloc W o none).block k hk (by simp)⟩

/-- The slice value v is the call's own: a row of just these bytes in a block from base on. -/
def OwnU8 (W : World) (base : Nat) (v : Value) (xs : List UInt8) : Prop := W.ownsRow base 5 1 v xs.length (xs.map bv)
theorem OwnU8.alloc {W : World} {base : Nat} {v : Value} {xs : List UInt8} (h : OwnU8 W base v xs) (o : Obj) : OwnU8 (W.alloc o) base v xs := World.ownsRow.alloc h o
theorem OwnU8.nil (W : World) (base : Nat) : OwnU8 W base (.slice none 0 0) [] := World.ownsRow_nil _ _ _ _
theorem OwnU8.base_le {W : World} {base : Nat} {v : Value} {xs : List UInt8} (h : OwnU8 W base v xs) : ∀ k, v.ownBlock = some k → base ≤ k := by
  intro k hk
  rcases h.2 with ⟨rfl, _⟩ | ⟨g, cap, cur, rfl, hb, _⟩
  · simp [Value.ownBlock] at hk
  · obtain rfl : g = k := by simpa [Value.ownBlock] using hk
    exact hb
theorem OwnU8.shape {W : World} {base : Nat} {v : Value} {xs : List UInt8} (h : OwnU8 W base v xs) : ∃ a n c, v = .slice a n c := by
  rcases h.2 with ⟨rfl, _⟩ | ⟨g, cap, cur, rfl, _⟩ <;> exact ⟨_, _, _, rfl⟩
/-- What a function that appends to such a row has done. -/
def AppendsU8 (base : Nat) (xs : List UInt8) (w : World) (v : Value) (e : Ending) (w' : World) : Prop := ∃ v', e = .returned v' ∧ OwnU8 w' base v' xs ∧ w.grownBy w' v.ownBlock

theorem wpl_append_u8 {ops : Array Oper} {rest : List Oper} {o : Oper} {a : Act} {Q : Exit → Act → World → Prop} (W : World) (hgd : o.guard = none) (s x : Operand)
    (ho : o.op = .call { callee := .builtin .append, args := #[s, x], argTypes := #[29, 29] })
    (base : Nat) (v : Value) (xs : List UInt8) (hs : a.eval s = v) (hown : OwnU8 W base v xs)
    (cells : List Value) (news : List UInt8) (hcells : cells = news.map bv) (m c : Nat) (hx : a.eval x = .slice (some ⟨W.heap.size, 0, none⟩) m c) (hm : m = news.length)
    (hbase : base ≤ W.heap.size) (hk : xs.length + news.length ≤ 140737488355328)
    (h : ∀ v' w', OwnU8 w' base v' (xs ++ news) → W.grownBy w' v.ownBlock → wpList Try.prog ops Q rest (a.put o.dst v') w') :
    wpList Try.prog ops Q (o :: rest) a (W.alloc (.cells cells.toArray 5)) := by
  subst hcells hm
  obtain ⟨i0, hi, hz0, hz1, hz2⟩ := info_parts info_u8
  refine wpList_append_own _ hgd s x 29 ho base 5 i0 (.int .u8 0) 1 1 Try.underlying29 hi hz0 hz1 hz2 rfl (by decide) v xs.length (xs.map bv) hs (hown.alloc _) ⟨W.heap.size, 0, none⟩ news.length c (news.map bv) hx (by simp) (cells_new W _ _) (bv_one _) (by unfold maxLen; omega) (by omega) (by simp; omega) ?_
  intro v' w' h1 h2 _
  refine h v' w' ?_ (grownBy_of_alloc h2)
  unfold OwnU8
  rw [List.length_append, List.map_append]
  exact h1

theorem wplIn_append_u8 {F : Fence} {n : Nat} {ops : Array Oper} {rest : List Oper} {o : Oper} {a : Act} {Q : Exit → Act → World → Prop} (W : World) (hgd : o.guard = none) (s x : Operand)
    (ho : o.op = .call { callee := .builtin .append, args := #[s, x], argTypes := #[29, 29] })
    (base : Nat) (v : Value) (xs : List UInt8) (hs : a.eval s = v) (hown : OwnU8 W base v xs)
    (cells : List Value) (news : List UInt8) (hcells : cells = news.map bv) (m c : Nat) (hx : a.eval x = .slice (some ⟨W.heap.size, 0, none⟩) m c) (hm : m = news.length)
    (hbase : base ≤ W.heap.size) (hk : xs.length + news.length ≤ 140737488355328)
    (h : ∀ v' w', OwnU8 w' base v' (xs ++ news) → W.grownBy w' v.ownBlock → wpListIn F n Try.prog ops Q rest (a.put o.dst v') w') :
    wpListIn F n Try.prog ops Q (o :: rest) a (W.alloc (.cells cells.toArray 5)) := by
  subst hcells hm
  obtain ⟨i0, hi, hz0, hz1, hz2⟩ := info_parts info_u8
  refine wpListIn_append_own _ hgd s x 29 ho base 5 i0 (.int .u8 0) 1 1 Try.underlying29 hi hz0 hz1 hz2 rfl (by decide) v xs.length (xs.map bv) hs (hown.alloc _) ⟨W.heap.size, 0, none⟩ news.length c (news.map bv) hx (by simp) (cells_new W _ _) (bv_one _) (by unfold maxLen; omega) (by omega) (by simp; omega) ?_
  intro v' w' h1 h2 _
  refine h v' w' ?_ (grownBy_of_alloc h2)
  unfold OwnU8
  rw [List.length_append, List.map_append]
  exact h1

/-- One block lies as it lay: what an iterator wants of a round that reads a boxed variable of its own. -/
def KeepB (b : Nat) (W W' : World) : Prop := W'.heap[b]? = W.heap[b]?
theorem KeepB.refl (b : Nat) (W : World) : KeepB b W W := rfl
theorem KeepB.trans {b : Nat} {A B C : World} (h : KeepB b A B) (h' : KeepB b B C) : KeepB b A C := Eq.trans h' h
theorem KeepB.cell {b : Nat} {A B : World} (h : KeepB b A B) {o : Nat} : B.cell? ⟨b, o, none⟩ = A.cell? ⟨b, o, none⟩ := World.cell?_of_block (a := ⟨b, o, none⟩) h
theorem KeepB.of_grownBy {b : Nat} {A B : World} {row : Option Nat} (h : A.grownBy B row) (hb : b < A.heap.size) (hne : some b ≠ row) : KeepB b A B := h.block b hb hne
theorem KeepB.setCell {b c : Nat} (W : World) (v : Value) (hne : b ≠ c) : KeepB b W (W.setCell ⟨c, 0, none⟩ v) := by
  by_cases hb : b < W.heap.size
  · exact (grownBy_setCell' W c v).block b hb (by simpa using hne)
  · unfold KeepB
    have h1 : W.heap[b]? = none := Array.getElem?_eq_none (by omega)
    have h2 : (W.setCell ⟨c, 0, none⟩ v).heap.size = W.heap.size := by simp
    rw [h1, Array.getElem?_eq_none (by omega)]
theorem KeepB.alloc {b : Nat} (W : World) (o : Obj) (hb : b < W.heap.size) : KeepB b W (W.alloc o) := (World.grownBy_alloc W o none).block b hb (by simp)
theorem boxed_keep {b : Nat} {A B : World} {t : TypeId} {v : Value} (h : KeepB b A B) (hv : Boxed A b t v) : Boxed B b t v := Eq.trans h hv
theorem keepB_t {b : Nat} {A B C : World} (h : KeepB b A B) (h' : KeepB b B C) : KeepB b A C := h.trans h'
theorem keepB_b {b : Nat} {w : World} (hb : b < w.heap.size) : ∀ (W : World) (l : Nat) (o o' : Obj), w.heap.size ≤ l → W.heap[l]? = some o → o.isCells = false → o.isWalk = false → KeepB b W (W.putObj l o') := fun _ _ _ _ h1 _ _ _ =>
  World.putObj_heap_other (by omega)

/-- A boxed variable of a slice of bytes that the call owns. -/
def OutBox (B base : Nat) (xs : List UInt8) (W : World) : Prop := ∃ v, Boxed W B 29 v ∧ OwnU8 W base v xs
theorem outBox_own {α : Type} (B base : Nat) (f : α → List UInt8) : Own (fun pre W => OutBox B base (f pre) W) := fun s W W' row hs hg hr => by
  obtain ⟨v, h1, h2⟩ := hs
  obtain ⟨v', g1, g2, _⟩ := holdsRow_own base B 29 5 1 (fun s : α => (f s).length) (fun s => (f s).map bv) (fun _ _ => True) s W W' row ⟨v, h1, h2, trivial⟩ hg hr
  exact ⟨v', g1, g2⟩
theorem OutBox.alloc {B base : Nat} {xs : List UInt8} {W : World} (h : OutBox B base xs W) (o : Obj) : OutBox B base xs (W.alloc o) := by
  obtain ⟨v, h1, h2⟩ := h; exact ⟨v, h1.alloc o, h2.alloc o⟩

/-- Behind 'out = append(out, ..)' or 'out = f(out, ..)'. -/
theorem boxed_appends {W w1 : World} {B base : Nat} {v v' : Value} {xs ys : List UInt8} (hv : Boxed W B 29 v) (hown : OwnU8 W base v xs) (hbB : base ≤ B) (hown' : OwnU8 w1 base v' ys) (hg : W.grownBy w1 v.ownBlock) :
    Boxed w1 B 29 v ∧ OutBox B base ys (w1.setCell ⟨B, 0, none⟩ v') ∧ KeepsOthers W (w1.setCell ⟨B, 0, none⟩ v') ∧ Below base W (w1.setCell ⟨B, 0, none⟩ v') ∧ (∀ b, b < W.heap.size → b ≠ B → (∀ u, Boxed W b 9 u → KeepB b W (w1.setCell ⟨B, 0, none⟩ v'))) := by
  have hv1 : Boxed w1 B 29 v := hv.kept hg (hv.not_row (by decide) hown)
  refine ⟨hv1, ⟨v', hv1.set v', World.ownsRow.kept hown' (grownBy_setCell' w1 B v') (.inr (hv1.not_row (by decide) hown').symm)⟩, ?_, ?_, ?_⟩
  · refine (KeepsOthers.of_grownBy hg fun j o ej hj => ?_).trans (KeepsOthers.setCell _ _ _)
    rcases hown.2 with ⟨rfl, _⟩ | ⟨g, cap, cur, rfl, _, hgb, _⟩
    · simp [Value.ownBlock] at ej
    · obtain rfl : g = j := by simpa [Value.ownBlock] using ej
      rw [hgb] at hj; cases hj; rfl
  · have hle : base ≤ W.heap.size := Nat.le_trans hbB (Nat.le_of_lt hv.lt)
    exact ((Below.refl base W).grown hg hle hown.base_le).setCell (p := ⟨B, 0, none⟩) hbB v'
  · intro b hb hne u hu
    exact (KeepB.of_grownBy hg hb (hu.not_row (by decide) hown)).trans (KeepB.setCell _ _ hne)

/-- 'string(b)' of such a row. -/
theorem OwnU8.string {W : World} {base : Nat} {v : Value} {xs : List UInt8} (h : OwnU8 W base v xs) : (convert 29 9 v).run Try.prog W = .ok (.string ⟨xs.toArray⟩) W := by
  obtain ⟨h1, h2⟩ := h
  rcases h2 with ⟨rfl, hz⟩ | ⟨g, cap, cur, rfl, hb, hg, hc, hm, hsz, htk⟩
  · have : xs = [] := by simpa using hz
    subst this
    exact Lib.run_convert_nil_bytes W _ _ _ 0 Try.underlying29 Try.underlying5 Try.underlying9
  · refine run_convert_bytes_back W _ _ _ _ cap xs Try.underlying29 Try.underlying5 Try.underlying9 (Lib.bytes_of_row hg ?_)
    rw [Nat.mul_one] at htk
    rw [htk]; simp [Lib.byteCells, bv]

end Go.Proofs.Ytfcdajldpnomfaa

/-
  A region that draws its order, walked order by order: each order is a list of operations, and a walk of each list serves. Inside a fence and in the open.
-/
namespace Go.Proofs.Ytfcdajldpnomfaa
set_option maxRecDepth 20000
open Go.RowKit Go.Shelf

/-- All orders that may be drawn from here on. -/
def ords (ops : Array Oper) : Nat → Array Bool → List (List Nat)
  | 0, _ => [[]]
  | f + 1, listed =>
    match Region.ready .any ops listed with
    | [] => [[]]
    | r :: rs => (r :: rs).flatMap fun i => (ords ops f (listed.setIfInBounds i true)).map (i :: ·)

theorem linearise_mem (ops : Array Oper) : ∀ (fuel t : Nat) (listed : Array Bool) (acc : List Nat), ∃ L ∈ ords ops fuel listed, Region.linearise.go .any ops fuel t listed acc = acc.reverse ++ L := by
  intro fuel
  induction fuel with
  | zero => intro t listed acc; exact ⟨[], by simp [ords], by simp [Region.linearise.go]⟩
  | succ fuel ih =>
    intro t listed acc
    simp only [Region.linearise.go]
    change ∃ L ∈ ords ops (fuel + 1) listed, (match (Region.ready .any ops listed)[t % (Region.ready .any ops listed).length]? with
      | some i => Region.linearise.go .any ops fuel (t / (Region.ready .any ops listed).length) (listed.setIfInBounds i true) (i :: acc)
      | none => acc.reverse) = acc.reverse ++ L
    cases hi : (Region.ready .any ops listed)[t % (Region.ready .any ops listed).length]? with
    | none =>
      have hnil : Region.ready .any ops listed = [] := by
        cases hr : Region.ready .any ops listed with
        | nil => rfl
        | cons x xs =>
          rw [hr] at hi
          have hlt : t % (x :: xs).length < (x :: xs).length := Nat.mod_lt _ (by simp)
          rw [List.getElem?_eq_getElem hlt] at hi
          cases hi
      exact ⟨[], by simp [ords, hnil], by simp⟩
    | some i =>
      have hmem : i ∈ Region.ready .any ops listed := List.mem_of_getElem? hi
      obtain ⟨L, hL, he⟩ := ih (t / (Region.ready .any ops listed).length) (listed.setIfInBounds i true) (i :: acc)
      refine ⟨i :: L, ?_, by simp only [he]; simp⟩
      cases hr : Region.ready .any ops listed with
      | nil => rw [hr] at hmem; cases hmem
      | cons x xs =>
        rw [hr] at hmem
        simp only [ords, hr]
        exact List.mem_flatMap.2 ⟨i, hmem, List.mem_map.2 ⟨L, hL, rfl⟩⟩

theorem wpOpsIn_of_list {F : Fence} {n : Nat} {P : Program} {ops : Array Oper} {Q : Exit → Act → World → Prop} : ∀ (L : List Nat) (a : Act) (w : World),
    wpListIn F n P ops Q (L.filterMap fun i => ops[i]?) a w → wpOpsIn F n P ops Q L a w := by
  intro L
  induction L with
  | nil => intro a w h; exact h
  | cons i L ih =>
    intro a w h
    cases ho : ops[i]? with
    | none =>
      rw [List.filterMap_cons, ho] at h
      simp only [wpOpsIn, ho]
      exact ih a w h
    | some o =>
      rw [List.filterMap_cons, ho] at h
      simp only [wpOpsIn, ho]
      simp only [wpListIn] at h
      split
      · rename_i hw
        rw [if_pos hw] at h
        exact Oper.wpIn_mono (fun a w h => ih a w h) h
      · rename_i hw
        rw [if_neg hw] at h
        exact ⟨h.1, ih _ _ h.2⟩

theorem wpOps_of_list {P : Program} {ops : Array Oper} {Q : Exit → Act → World → Prop} : ∀ (L : List Nat) (a : Act) (w : World),
    wpList P ops Q (L.filterMap fun i => ops[i]?) a w → wpOps P ops Q L a w := by
  intro L
  induction L with
  | nil => intro a w h; exact h
  | cons i L ih =>
    intro a w h
    cases ho : ops[i]? with
    | none =>
      rw [List.filterMap_cons, ho] at h
      simp only [wpOps, ho]
      exact ih a w h
    | some o =>
      rw [List.filterMap_cons, ho] at h
      simp only [wpOps, ho]
      simp only [wpList] at h
      split
      · rename_i hw
        rw [if_pos hw] at h
        exact h.imp (Oper.wp_mono (fun a w h => ih a w h)) id
      · rename_i hw
        rw [if_neg hw] at h
        exact ih _ _ h

def AllOrd (f : List Nat → Prop) : List (List Nat) → Prop
  | [] => True
  | L :: r => f L ∧ AllOrd f r
theorem AllOrd.mem {f : List Nat → Prop} : ∀ {l : List (List Nat)}, AllOrd f l → ∀ L ∈ l, f L
  | [], _, _, h => by cases h
  | _ :: _, h, L, hL => by
    rcases List.mem_cons.1 hL with rfl | hL
    · exact h.1
    · exact AllOrd.mem h.2 L hL

theorem wpIn_region_orders {F : Fence} {n : Nat} {P : Program} {id : Nat} {ops : Array Oper} {Q : Exit → Act → World → Prop} {a : Act} {w : World} (os : List (List Nat))
    (hm : P.follows .mixedOrders = true) (hos : ords ops ops.size (Array.replicate ops.size false) = os)
    (h : AllOrd (fun L => wpListIn F n P ops Q (L.filterMap fun i => ops[i]?) a w.drew) os) : (Code.region id ops true).wpIn F n P Q a w :=
  wpIn_region_draw fun t => by
    simp only [Region.schedule, hm, Bool.true_or, if_true, Region.linearise]
    obtain ⟨L, hL, he⟩ := linearise_mem ops ops.size t (Array.replicate ops.size false) []
    rw [he, List.reverse_nil, List.nil_append]
    rw [hos] at hL
    exact wpOpsIn_of_list L a _ (h.mem L hL)

theorem wp_region_orders {P : Program} {id : Nat} {ops : Array Oper} {Q : Exit → Act → World → Prop} {a : Act} {w : World} (os : List (List Nat))
    (hm : P.follows .mixedOrders = true) (hos : ords ops ops.size (Array.replicate ops.size false) = os)
    (h : AllOrd (fun L => wpList P ops Q (L.filterMap fun i => ops[i]?) a w.drew) os) : (Code.region id ops true).wp P Q a w :=
  wp_region_draw fun t => by
    simp only [Region.schedule, hm, Bool.true_or, if_true, Region.linearise]
    obtain ⟨L, hL, he⟩ := linearise_mem ops ops.size t (Array.replicate ops.size false) []
    rw [he, List.reverse_nil, List.nil_append]
    rw [hos] at hL
    exact wpOps_of_list L a _ (h.mem L hL)

theorem follows_mixed : Try.prog.follows .mixedOrders = true := by kernel_rfl

end Go.Proofs.Ytfcdajldpnomfaa

/-
  Contracts of package label's small functions: Check, digit, small, appendOctet, octets. They only compute, or append to a slice of the caller's own.
-/
namespace Go.Proofs.Ytfcdajldpnomfaa
set_option maxRecDepth 20000
open Go.RowKit Go.Shelf

/-- P101's Check, on octets. -/
def checkLabelM (l : List UInt8) : Int := if l = [] then 8 else if 63 < l.length then 3 else 0

def digitU (c : UInt8) : Bool := decide (48 ≤ c.toNat ∧ c.toNat ≤ 57)

def smallU (c : UInt8) : UInt8 := if 65 ≤ c.toNat ∧ c.toNat ≤ 90 then c + 32 else c

theorem smallU_hi (c : UInt8) (h1 : 65 ≤ (c.toNat : Int)) (h2 : (c.toNat : Int) ≤ 90) : (c.toNat : Int) + 97 - 65 = ((smallU c).toNat : Int) := by
  unfold smallU; rw [if_pos ⟨by omega, by omega⟩, UInt8.toNat_add]; simp; omega
theorem smallU_lo (c : UInt8) (h : ¬ (65 ≤ (c.toNat : Int) ∧ (c.toNat : Int) ≤ 90)) : (c.toNat : Int) = ((smallU c).toNat : Int) := by
  unfold smallU; rw [if_neg (by omega)]

set_option maxHeartbeats 400000 in
theorem label_small (c : UInt8) (w : World) :
    Calls Try.prog 75 #[.int .u8 (c.toNat : Int)] w fun e w' => e = .returned (.int .u8 ((smallU c).toNat : Int)) ∧ w = w' := by
  have h1 : (c.toNat : Int) ≤ 255 := by have := c.toNat_lt; omega
  by_cases h : (65 : Int) ≤ (c.toNat : Int) ∧ (c.toNat : Int) ≤ 90
  · have ha := smallU_hi c h.1 h.2
    have H := Lib.hid ha; clear ha
    obtain ⟨h2, h3⟩ := h
    go_enter Try.func75, Try.ntmps75
    go_wp2
    go_ret
    exact ⟨ret_int H.out, rfl⟩
  · have ha := smallU_lo c h
    have H := Lib.hid ha; clear ha
    by_cases h2 : (65 : Int) ≤ (c.toNat : Int)
    all_goals
      go_enter Try.func75, Try.ntmps75
      go_wp2
      try (exfalso; omega)
      try (go_ret; exact ⟨ret_int H.out, rfl⟩)


/-! ### octets -/

section
attribute [local go_sem] Oper.semAt_some

end

/-! ### appendOctet -/

def specialU (c : UInt8) : Bool := decide (c.toNat = 46 ∨ c.toNat = 92 ∨ c.toNat = 34 ∨ c.toNat = 40 ∨ c.toNat = 41 ∨ c.toNat = 59 ∨ c.toNat = 64 ∨ c.toNat = 36)
def octetW (c : UInt8) : List UInt8 :=
  if specialU c then [92, c] else if c.toNat < 33 ∨ 126 < c.toNat then [92, 48 + c / 100, 48 + c / 10 % 10, 48 + c % 10] else [c]

def octetEsc (c : UInt8) : List UInt8 := [92, 48 + c / 100, 48 + c / 10 % 10, 48 + c % 10]

theorem octetW_special {c : UInt8} (h : specialU c = true) : octetW c = [92, c] := by simp [octetW, h]
theorem octetW_esc {c : UInt8} (h : specialU c = false) (h2 : (c.toNat : Int) < 33 ∨ 126 < (c.toNat : Int)) : octetW c = octetEsc c := by
  have : c.toNat < 33 ∨ 126 < c.toNat := by omega
  simp [octetW, h, this, octetEsc]
theorem octetW_plain {c : UInt8} (h : specialU c = false) (h2 : 33 ≤ (c.toNat : Int)) (h3 : (c.toNat : Int) ≤ 126) : octetW c = [c] := by
  have : ¬ (c.toNat < 33 ∨ 126 < c.toNat) := by omega
  simp [octetW, h, this]

theorem sp_of {c : UInt8} (n : Int) (hn : n = 46 ∨ n = 92 ∨ n = 34 ∨ n = 40 ∨ n = 41 ∨ n = 59 ∨ n = 64 ∨ n = 36) (h : ((c.toNat : Int) == n) = true) : specialU c = true := by
  simp only [beq_iff_eq] at h
  unfold specialU; apply decide_eq_true; omega
theorem sp_not {c : UInt8} (h1 : ((c.toNat : Int) == 46) = false) (h2 : ((c.toNat : Int) == 92) = false) (h3 : ((c.toNat : Int) == 34) = false) (h4 : ((c.toNat : Int) == 40) = false)
    (h5 : ((c.toNat : Int) == 41) = false) (h6 : ((c.toNat : Int) == 59) = false) (h7 : ((c.toNat : Int) == 64) = false) (h8 : ((c.toNat : Int) == 36) = false) : specialU c = false := by
  simp only [beq_eq_false_iff_ne, ne_eq] at h1 h2 h3 h4 h5 h6 h7 h8
  unfold specialU; apply decide_eq_false; omega
theorem esc_cells (c : UInt8) : [Value.int .u8 92, .int .u8 (48 + (c.toNat : Int) / 100), .int .u8 (48 + (c.toNat : Int) / 10 % 10), .int .u8 (48 + (c.toNat : Int) % 10)] = (octetEsc c).map bv := by
  have := c.toNat_lt
  simp only [octetEsc, List.map_cons, List.map_nil, bv, UInt8.toNat_add, UInt8.toNat_div, UInt8.toNat_mod, UInt8.reduceToNat]
  have e1 : (48 + c.toNat / 100) % 2 ^ 8 = 48 + c.toNat / 100 := by omega
  have e2 : (48 + c.toNat / 10 % 10) % 2 ^ 8 = 48 + c.toNat / 10 % 10 := by omega
  have e3 : (48 + c.toNat % 10) % 2 ^ 8 = 48 + c.toNat % 10 := by omega
  rw [e1, e2, e3]
  simp

theorem fin_app {c : UInt8} {v v' : Value} {base : Nat} {xs : List UInt8} {w w1 : World} (l : List UInt8) (e : octetW c = l)
    (hown1 : OwnU8 w1 base v' (xs ++ l)) (hgrow : w.grownBy w1 v.ownBlock) : AppendsU8 base (xs ++ octetW c) w v (.returned v') w1 := by
  subst e; exact ⟨v', rfl, hown1, hgrow⟩

end Go.Proofs.Ytfcdajldpnomfaa

/-
  Contract of label.Text: the words of any octets.
-/
namespace Go.Proofs.Ytfcdajldpnomfaa
set_option maxRecDepth 20000
open Go.RowKit Go.Shelf

def textL (l : List UInt8) : List UInt8 := l.flatMap octetW
theorem textL_snoc (l : List UInt8) (c : UInt8) : textL (l ++ [c]) = textL l ++ octetW c := by simp [textL]
theorem octetW_le (c : UInt8) : (octetW c).length ≤ 4 := by unfold octetW; split; · simp
                                                            split <;> simp
theorem textL_le (l : List UInt8) : (textL l).length ≤ 4 * l.length := by
  induction l with
  | nil => simp [textL]
  | cons c l ih => have := octetW_le c; simp only [textL, List.flatMap_cons, List.length_append, List.length_cons] at ih ⊢; omega

section
attribute [local go_sem] Oper.semAt_some

end

end Go.Proofs.Ytfcdajldpnomfaa

