/-
  The document's names in the same spelling as package name's (XNamX); the statements' helpers.
-/
import Derived.Test.YtckammgnmgkieaaGreatMQ39
import Derived.Test.YtckammgnmgkieaaGreatMQ38
import Derived.Test.YtckammgnmgkieaaGreatMQ18
import Derived.Test.YtckammgnmgkieaaGreatMQ33
import Derived.Test.YtckammgnmgkieaaGreatMQ41
import Derived.Test.YtckammgnmgkieaaGreatMQ15
import Derived.Laws.Concat
import Derived.Lib.PathFns
import Derived.Sort.LotA
import Derived.Test.YtckammgnmgkieaaGreatMQ19
import Derived.Shelf.SlSortFuncK.RowK2
import Derived.Shelf.SlicesQ.Reverse
namespace Go.Proofs.YtckammgnmgkieaaGreat
set_option maxRecDepth 20000
open Go.RowKit Go.Shelf

theorem kn_RSame (v u : Value) (n z : Nm) (r : Bool) (h : sameN n z = r) (w : World) (hA : NmAt w v n) (hU : NmAt w u z) (h1 : NmOK n) (h2 : NmOK z) :
    Calls Tryz.prog 55 #[v, u] w fun e w' => e = .returned (.bool r) ∧ Below w.heap.size w w' := by
  subst h; exact ref_Same v u n z w hA.1 hU.1 h1 h2
theorem kn_RCompare (v u : Value) (n z : Nm) (r : Int) (h : compareN n z = r) (w : World) (hA : NmAt w v n) (hU : NmAt w u z) (h1 : NmOK n) (h2 : NmOK z) :
    Calls Tryz.prog 155 #[v, u] w fun e w' => e = .returned (.int .i64 r) ∧ Below w.heap.size w w' := by
  subst h; exact ref_Compare v u n z w hA.1 hU.1 h1 h2
def NmArg (W : World) (v : Value) (xs : Nm) : Prop := NmAt W v xs ∧ xs.length ≤ maxLen ∧ ∀ x ∈ xs, x.length ≤ maxLen
theorem nmArg_nil (W : World) : NmArg W (.slice none 0 0) [] := ⟨nm_nil W, Nat.zero_le _, by simp⟩
theorem nmArg_row {W : World} {x : Addr} {l c : Nat} {zs : List ByteArray} (hl : l ≤ c) (hm : c ≤ maxLen) (hz : zs.length = c)
    (hcell : ∀ i, i < zs.length → W.cell? (x.add i) = some (.string (zs.getD i ByteArray.empty))) (hws : ∀ s ∈ zs, s.size ≤ maxLen) :
    NmArg W (.slice (some x) l c) ((zs.take l).map (·.data.toList)) := by
  have h := strsArg_row hl hm hz hcell hws
  exact ⟨⟨h.1, _, _, _, rfl, hl, fun e => by cases e⟩, h.2⟩
theorem kn_Few (v : Value) (n : Nm) (r : Bool) (h : fewN n = r) (w0 w : World) (hA : NmArg w0 v n) (hA2 : NmAt w v n) :
    Calls Tryz.prog 13 #[v] w fun e w' => e = .returned (.bool r) ∧ Below w.heap.size w w' := by
  subst h; refine (law2_Few v n w hA2.1 hA.2.1 hA.2.2).mono ?_
  rintro e w' ⟨rfl, rfl⟩; exact ⟨rfl, Below.refl _ _⟩
theorem kn_Is (v u : Value) (n z : Nm) (r : Bool) (h : decide (n = z) = r) (w : World) (hA : NmAt w v n) (hU : NmAt w u z) (h1 : NmOK n) :
    Calls Tryz.prog 20 #[v, u] w fun e w' => e = .returned (.bool r) ∧ Below w.heap.size w w' := by
  subst h; exact law2_Is v u n z w hA.1 hU.1 (by have := h1.1; omega)

end Go.Proofs.YtckammgnmgkieaaGreat

/-
  The law's Few for data.
-/
namespace Go.Proofs.YtckammgnmgkieaaGreat
set_option maxRecDepth 20000
open Go.RowKit Go.Shelf

def fewD (d : Dat) : Bool := decide (d.names.length ≤ 8 ∧ d.nums.length ≤ 12 ∧ d.texts.length ≤ 40 ∧ d.raw.length ≤ 1100) && (decide (∀ n ∈ d.names, fewN n = true) && decide (∀ x ∈ d.texts, x.length ≤ 300))
def DatArg (W : World) (v : Value) (d : Dat) : Prop := DatAt W v d ∧ (-(2 ^ 63) ≤ d.ty ∧ d.ty < 2 ^ 63) ∧ (∀ n ∈ d.names, n.length ≤ maxLen ∧ ∀ x ∈ n, x.length ≤ maxLen) ∧ (∀ n ∈ d.nums, n < 2 ^ 32) ∧ (∀ x ∈ d.texts, x.length ≤ maxLen)

theorem fewD_ok {W : World} {v : Value} {d : Dat} (h : DatArg W v d) (hf : fewD d = true) : DatOK d := by
  simp only [fewD, Bool.and_eq_true, decide_eq_true_eq] at hf
  obtain ⟨⟨f1, f2, f3, f4⟩, f5, f6⟩ := hf
  exact ⟨h.2.1, by omega, fun n hn => fewN_ok (f5 n hn), by omega, h.2.2.2.1, ⟨by omega, fun x hx => by have := f6 x hx; omega⟩, by omega⟩
end Go.Proofs.YtckammgnmgkieaaGreat

/-
  The document's types: Types, typeName, Known, TypeText, ParseType.
-/
namespace Go.Proofs.YtckammgnmgkieaaGreat
set_option maxRecDepth 20000
open Go.RowKit Go.Shelf

def TRow (g : Nat) (W : World) : Prop := g < W.heap.size ∧ ∀ j, j < 9 → W.cell? ⟨g, j, none⟩ = some (.int .i64 (typeT j))
theorem TRow.below {g : Nat} {W W' : World} (h : TRow g W) (hb : Below W.heap.size W W') : TRow g W' := ⟨Nat.lt_of_lt_of_le h.1 hb.size, fun j hj => (hb.cell (p := ⟨g, j, none⟩) h.1).trans (h.2 j hj)⟩
end Go.Proofs.YtckammgnmgkieaaGreat

/-
  Plain facts of a stable sort by merging in place: elements with a place of their own (tg), an order cf.
-/
namespace Go.Proofs.YtckammgnmgkieaaGreat.Stb
open Go.Sort
set_option linter.unusedSectionVars false
variable {α : Type} [Inhabited α]

structure COrd (cf : α → α → Int) : Prop where
  anti : ∀ x y, cf y x = - cf x y
  trans : ∀ x y z, cf x y ≤ 0 → cf y z ≤ 0 → cf x z ≤ 0

def Lx (cf : α → α → Int) (tg : α → Nat) (x y : α) : Prop := cf x y < 0 ∨ (cf x y = 0 ∧ tg x < tg y)

section
variable {cf : α → α → Int} {tg : α → Nat}
omit [Inhabited α] in
theorem Lx.trans (h : COrd cf) {x y z : α} (h1 : Lx cf tg x y) (h2 : Lx cf tg y z) : Lx cf tg x z := by
  have a1 := h.anti x y; have a2 := h.anti y z; have a3 := h.anti x z
  have t1 := h.trans x y z; have t2 := h.trans z x y; have t3 := h.trans y z x
  unfold Lx at *
  rcases h1 with h1 | ⟨h1, g1⟩ <;> rcases h2 with h2 | ⟨h2, g2⟩ <;> omega
omit [Inhabited α] in
theorem Lx.irrefl (h : COrd cf) (x : α) : ¬ Lx cf tg x x := by
  have := h.anti x x
  unfold Lx; omega
omit [Inhabited α] in
theorem Lx.of_not (h : COrd cf) {x y : α} (ht : tg x < tg y) (hn : ¬ cf y x < 0) : Lx cf tg x y := by
  have := h.anti x y
  unfold Lx; omega
def Rise (cf : α → α → Int) (tg : α → Nat) (a b : Nat) (d : Array α) : Prop := ∀ i j, a ≤ i → i < j → j < b → Lx cf tg d[i]! d[j]!

theorem Rise.congr {a b : Nat} {d d' : Array α} (h : Rise cf tg a b d) (he : ∀ x, a ≤ x → x < b → d'[x]! = d[x]!) : Rise cf tg a b d' := fun i j h1 h2 h3 => by
  rw [he i h1 (by omega), he j (by omega) h3]; exact h i j h1 h2 h3
theorem Rise.sub {a b a' b' : Nat} {d : Array α} (h : Rise cf tg a b d) (h1 : a ≤ a') (h2 : b' ≤ b) : Rise cf tg a' b' d := fun i j g1 g2 g3 => h i j (by omega) g2 (by omega)
theorem Rise.join {a m b : Nat} {d : Array α} (h1 : Rise cf tg a m d) (h2 : Rise cf tg m b d) (h3 : ∀ i j, a ≤ i → i < m → m ≤ j → j < b → Lx cf tg d[i]! d[j]!) : Rise cf tg a b d := fun i j g1 g2 g3 => by
  by_cases hj : j < m
  · exact h1 i j g1 g2 hj
  · by_cases hi : i < m
    · exact h3 i j g1 hi (by omega) g3
    · exact h2 i j (by omega) g2 g3

def swr (a b n : Nat) (f : Nat → α) (x : Nat) : α := if a ≤ x ∧ x < a + n then f (x + (b - a)) else if b ≤ x ∧ x < b + n then f (x - (b - a)) else f x
theorem swr_zero (a b : Nat) (f : Nat → α) (x : Nat) : swr a b 0 f x = f x := by
  unfold swr; rw [if_neg (by omega), if_neg (by omega)]
theorem swr_step {a b n : Nat} {d dk : Array α} (hab : a + n < b) (hb : b + n < d.size) (hs : dk.size = d.size) (h : ∀ x, x < d.size → dk[x]! = swr a b n (fun i => d[i]!) x) :
    ∀ x, x < d.size → (swp dk (a + n) (b + n))[x]! = swr a b (n + 1) (fun i => d[i]!) x := by
  intro x hx
  rw [swp_get dk (by omega) (by omega), h (a + n) (by omega), h (b + n) hb, h x hx]
  unfold swr
  (try dsimp only)
  repeat' split
  all_goals first | (exfalso; omega) | rfl | (congr 1; omega)

def rot (a m b : Nat) (f : Nat → α) (x : Nat) : α := if a ≤ x ∧ x < a + (b - m) then f (x + (m - a)) else if a + (b - m) ≤ x ∧ x < b then f (x - (b - m)) else f x
theorem rot_gt {m i j : Nat} (f : Nat → α) (hm : i ≤ m) (hij : j < i) (x : Nat) : rot (m - (i - j)) m (m + j) (swr (m - i) m j f) x = rot (m - i) m (m + j) f x := by
  unfold rot swr
  (try dsimp only)
  repeat' split
  all_goals first | (exfalso; omega) | rfl | (congr 1; omega)
theorem rot_lt {m i j : Nat} (f : Nat → α) (hm : i ≤ m) (hij : i < j) (x : Nat) : rot (m - i) m (m + (j - i)) (swr (m - i) (m + j - i) i f) x = rot (m - i) m (m + j) f x := by
  unfold rot swr
  (try dsimp only)
  repeat' split
  all_goals first | (exfalso; omega) | rfl | (congr 1; omega)
theorem rot_eq {m i : Nat} (f : Nat → α) (hm : i ≤ m) (x : Nat) : swr (m - i) m i f x = rot (m - i) m (m + i) f x := by
  unfold rot swr
  repeat' split
  all_goals first | (exfalso; omega) | rfl | (congr 1; omega)
theorem rot_congr {a m b n : Nat} {f g : Nat → α} (hm : a ≤ m) (hmb : m ≤ b) (hb : b ≤ n) (h : ∀ x, x < n → f x = g x) (x : Nat) (hx : x < n) : rot a m b f x = rot a m b g x := by
  unfold rot
  repeat' split
  all_goals exact h _ (by omega)
theorem rot_left {m b : Nat} (f : Nat → α) (x : Nat) : rot m m b f x = f x := by
  unfold rot
  repeat' split
  all_goals first | (exfalso; omega) | rfl | (congr 1; omega)
theorem rot_right {a m : Nat} (f : Nat → α) (x : Nat) : rot a m m f x = f x := by
  unfold rot
  repeat' split
  all_goals first | (exfalso; omega) | rfl | (congr 1; omega)

def shu (a k : Nat) (f : Nat → α) (x : Nat) : α := if a ≤ x ∧ x < k then f (x + 1) else if x = k then f a else f x
theorem shu_zero (a : Nat) (f : Nat → α) (x : Nat) : shu a a f x = f x := by
  unfold shu
  repeat' split
  all_goals first | (exfalso; omega) | rfl | (congr 1; omega)
theorem shu_step {a k : Nat} {d dk : Array α} (hak : a ≤ k) (hk : k + 1 < d.size) (hs : dk.size = d.size) (h : ∀ x, x < d.size → dk[x]! = shu a k (fun i => d[i]!) x) :
    ∀ x, x < d.size → (swp dk k (k + 1))[x]! = shu a (k + 1) (fun i => d[i]!) x := by
  intro x hx
  rw [swp_get dk (by omega) (by omega), h k (by omega), h (k + 1) hk, h x hx]
  unfold shu
  (try dsimp only)
  repeat' split
  all_goals first | (exfalso; omega) | rfl | (congr 1; omega)
def shd (k m : Nat) (f : Nat → α) (x : Nat) : α := if k < x ∧ x ≤ m then f (x - 1) else if x = k then f m else f x
theorem shd_zero (m : Nat) (f : Nat → α) (x : Nat) : shd m m f x = f x := by
  unfold shd
  repeat' split
  all_goals first | (exfalso; omega) | rfl | (congr 1; omega)
theorem shd_step {k m : Nat} {d dk : Array α} (hkm : k + 1 ≤ m) (hm : m < d.size) (hs : dk.size = d.size) (h : ∀ x, x < d.size → dk[x]! = shd (k + 1) m (fun i => d[i]!) x) :
    ∀ x, x < d.size → (swp dk (k + 1) k)[x]! = shd k m (fun i => d[i]!) x := by
  intro x hx
  rw [swp_get dk (by omega) (by omega), h k (by omega), h (k + 1) (by omega), h x hx]
  unfold shd
  (try dsimp only)
  repeat' split
  all_goals first | (exfalso; omega) | rfl | (congr 1; omega)

structure Mrg (cf : α → α → Int) (tg : α → Nat) (a m b : Nat) (d : Array α) : Prop where
  am : a < m
  mb : m < b
  bs : b ≤ d.size
  l : Rise cf tg a m d
  r : Rise cf tg m b d
  x : ∀ i j, a ≤ i → i < m → m ≤ j → j < b → tg d[i]! < tg d[j]!

theorem Mrg.one (hO : COrd cf) {a b i : Nat} {d d' : Array α} (h : Mrg cf tg a (a + 1) b d) (hi : a + 1 ≤ i) (hib : i ≤ b)
    (h1 : i = a + 1 ∨ cf d[i - 1]! d[a]! < 0) (h2 : i = b ∨ ¬ cf d[i]! d[a]! < 0) (hd : ∀ x, x < d.size → d'[x]! = shu a (i - 1) (fun k => d[k]!) x) : Rise cf tg a b d' := by
  have hb := h.bs
  have lo : ∀ k, a + 1 ≤ k → k < i → Lx cf tg d[k]! d[a]! := fun k g1 g2 => by
    rcases h1 with h1 | h1
    · omega
    · by_cases e : k = i - 1
      · subst e; exact Or.inl h1
      · exact (h.r k (i - 1) g1 (by omega) (by omega)).trans hO (Or.inl h1)
  have hi' : ∀ k, i ≤ k → k < b → Lx cf tg d[a]! d[k]! := fun k g1 g2 => by
    rcases h2 with h2 | h2
    · omega
    · have hx : Lx cf tg d[a]! d[i]! := Lx.of_not hO (h.x a i (Nat.le_refl _) (by omega) (by omega) (by omega)) h2
      by_cases e : k = i
      · subst e; exact hx
      · exact hx.trans hO (h.r i k (by omega) (by omega) g2)
  intro p q g1 g2 g3
  rw [hd p (by omega), hd q (by omega)]
  unfold shu
  (try dsimp only)
  repeat' split
  all_goals first
    | (exfalso; omega)
    | exact h.r _ _ (by omega) (by omega) (by omega)
    | exact lo _ (by omega) (by omega)
    | exact hi' _ (by omega) (by omega)

theorem Mrg.last (hO : COrd cf) {a m i : Nat} {d d' : Array α} (h : Mrg cf tg a m (m + 1) d) (hi : a ≤ i) (hib : i ≤ m)
    (h1 : i = a ∨ ¬ cf d[m]! d[i - 1]! < 0) (h2 : i = m ∨ cf d[m]! d[i]! < 0) (hd : ∀ x, x < d.size → d'[x]! = shd i m (fun k => d[k]!) x) : Rise cf tg a (m + 1) d' := by
  have hb := h.bs
  have hm := h.am
  have lo : ∀ k, a ≤ k → k < i → Lx cf tg d[k]! d[m]! := fun k g1 g2 => by
    rcases h1 with h1 | h1
    · omega
    · have hx : Lx cf tg d[i - 1]! d[m]! := Lx.of_not hO (h.x (i - 1) m (by omega) (by omega) (Nat.le_refl _) (by omega)) h1
      by_cases e : k = i - 1
      · subst e; exact hx
      · exact (h.l k (i - 1) g1 (by omega) (by omega)).trans hO hx
  have hi' : ∀ k, i ≤ k → k < m → Lx cf tg d[m]! d[k]! := fun k g1 g2 => by
    rcases h2 with h2 | h2
    · omega
    · by_cases e : k = i
      · subst e; exact Or.inl h2
      · exact Lx.trans hO (Or.inl h2) (h.l i k (by omega) (by omega) g2)
  intro p q g1 g2 g3
  rw [hd p (by omega), hd q (by omega)]
  unfold shd
  (try dsimp only)
  repeat' split
  all_goals first
    | (exfalso; omega)
    | exact h.l _ _ (by omega) (by omega) (by omega)
    | exact lo _ (by omega) (by omega)
    | exact hi' _ (by omega) (by omega)

structure Cutp (cf : α → α → Int) (a m b mid s : Nat) (d : Array α) : Prop where
  lo : a ≤ s
  hi : s ≤ mid
  sm : s ≤ m
  e : mid + m - s ≤ b
  p1 : s = a ∨ mid + m - s = b ∨ ¬ cf d[mid + m - s]! d[s - 1]! < 0
  p2 : s = m ∨ s = mid ∨ cf d[mid + m - s - 1]! d[s]! < 0

theorem Mrg.turned (hO : COrd cf) {a m b mid s : Nat} {d d' : Array α} (h : Mrg cf tg a m b d) (c : Cutp cf a m b mid s d) (ham : a < mid) (hmb : mid < b)
    (hs : d'.size = d.size) (hd : ∀ x, x < d.size → d'[x]! = rot s m (mid + m - s) (fun k => d[k]!) x) :
    (a < s → s < mid → Mrg cf tg a s mid d') ∧ (¬ (a < s ∧ s < mid) → Rise cf tg a mid d') ∧ (mid < mid + m - s → mid + m - s < b → Mrg cf tg mid (mid + m - s) b d') ∧ (¬ (mid < mid + m - s ∧ mid + m - s < b) → Rise cf tg mid b d') ∧
    (∀ i j, a ≤ i → i < mid → mid ≤ j → j < b → Lx cf tg d'[i]! d'[j]!) := by
  have hb := h.bs
  have am := h.am
  have mb := h.mb
  obtain ⟨lo, hi, sm, e, p1, p2⟩ := c
  have g : ∀ x, x < b → d'[x]! = if s ≤ x ∧ x < mid then d[x + (m - s)]! else if mid ≤ x ∧ x < mid + m - s then d[x - (mid - s)]! else d[x]! := fun x hx => by
    rw [hd x (by omega)]
    unfold rot
    (try dsimp only)
    repeat' split
    all_goals first | (exfalso; omega) | rfl | (congr 1; omega)
  have A1 : Rise cf tg a s d' := h.l.sub (Nat.le_refl _) sm |>.congr fun x h1 h2 => by rw [g x (by omega), if_neg (by omega), if_neg (by omega)]
  have A2 : Rise cf tg s mid d' := fun i j h1 h2 h3 => by
    rw [g i (by omega), g j (by omega), if_pos (by omega), if_pos (by omega)]
    exact h.r _ _ (by omega) (by omega) (by omega)
  have B1 : Rise cf tg mid (mid + m - s) d' := fun i j h1 h2 h3 => by
    rw [g i (by omega), g j (by omega), if_neg (by omega), if_pos (by omega), if_neg (by omega), if_pos (by omega)]
    exact h.l _ _ (by omega) (by omega) (by omega)
  have B2 : Rise cf tg (mid + m - s) b d' := fun i j h1 h2 h3 => by
    rw [g i (by omega), g j (by omega), if_neg (by omega), if_neg (by omega), if_neg (by omega), if_neg (by omega)]
    exact h.r _ _ (by omega) (by omega) (by omega)
  refine ⟨fun k1 k2 => ⟨k1, k2, by omega, A1, A2, fun i j h1 h2 h3 h4 => ?_⟩, fun hn => ?_, fun k1 k2 => ⟨k1, k2, by omega, B1, B2, fun i j h1 h2 h3 h4 => ?_⟩, fun hn => ?_, fun i j h1 h2 h3 h4 => ?_⟩
  · rw [g i (by omega), g j (by omega), if_neg (by omega), if_neg (by omega), if_pos (by omega)]
    exact h.x _ _ (by omega) (by omega) (by omega) (by omega)
  · by_cases hsa : s = a
    · exact hsa ▸ A2
    · have : s = mid := by omega
      exact this ▸ A1
  · rw [g i (by omega), g j (by omega), if_neg (by omega), if_pos (by omega), if_neg (by omega), if_neg (by omega)]
    exact h.x _ _ (by omega) (by omega) (by omega) (by omega)
  · by_cases hsa : s = m
    · have : mid + m - s = mid := by omega
      exact this ▸ B2
    · have : mid + m - s = b := by omega
      exact this ▸ B1
  · rw [g i (by omega), g j (by omega)]
    -- of the four pairs
    have X1 : ∀ u v, a ≤ u → u < s → mid + m - s ≤ v → v < b → Lx cf tg d[u]! d[v]! := fun u v q1 q2 q3 q4 => by
      rcases p1 with p1 | p1 | p1
      · omega
      · omega
      · have hx : Lx cf tg d[s - 1]! d[mid + m - s]! := Lx.of_not hO (h.x _ _ (by omega) (by omega) (by omega) (by omega)) p1
        have h5 : Lx cf tg d[u]! d[mid + m - s]! := by
          by_cases e : u = s - 1
          · subst e; exact hx
          · exact (h.l u (s - 1) q1 (by omega) (by omega)).trans hO hx
        by_cases e : v = mid + m - s
        · subst e; exact h5
        · exact h5.trans hO (h.r _ v (by omega) (by omega) q4)
    have X2 : ∀ u v, m ≤ u → u < mid + m - s → s ≤ v → v < m → Lx cf tg d[u]! d[v]! := fun u v q1 q2 q3 q4 => by
      rcases p2 with p2 | p2 | p2
      · omega
      · omega
      · have h5 : Lx cf tg d[u]! d[s]! := by
          by_cases e : u = mid + m - s - 1
          · subst e; exact Or.inl p2
          · exact (h.r u (mid + m - s - 1) q1 (by omega) (by omega)).trans hO (Or.inl p2)
        by_cases e : v = s
        · subst e; exact h5
        · exact h5.trans hO (h.l s v (by omega) (by omega) q4)
    repeat' split
    all_goals first
      | (exfalso; omega)
      | exact X1 _ _ (by omega) (by omega) (by omega) (by omega)
      | exact X2 _ _ (by omega) (by omega) (by omega) (by omega)
      | exact h.l _ _ (by omega) (by omega) (by omega)
      | exact h.r _ _ (by omega) (by omega) (by omega)

theorem rise_both (a mid b : Nat) {d1 d2 d3 : Array α} (hmb : mid ≤ b) (hb : b ≤ d1.size) (hx : ∀ i j, a ≤ i → i < mid → mid ≤ j → j < b → Lx cf tg d1[i]! d1[j]!)
    (h1 : PermIn a mid d1 d2) (r1 : Rise cf tg a mid d2) (h2 : PermIn mid b d2 d3) (r2 : Rise cf tg mid b d3) : Rise cf tg a b d3 := by
  have k1 : ∀ i, a ≤ i → i < mid → ∀ j, mid ≤ j → j < b → Lx cf tg d2[i]! d1[j]! := permIn_all d1 d2 a mid (fun x => ∀ j, mid ≤ j → j < b → Lx cf tg x d1[j]!) (by omega) h1 (fun i q1 q2 j q3 q4 => hx i j q1 q2 q3 q4)
  have k2 : ∀ j, mid ≤ j → j < b → ∀ i, a ≤ i → i < mid → Lx cf tg d2[i]! d3[j]! := permIn_all d2 d3 mid b (fun y => ∀ i, a ≤ i → i < mid → Lx cf tg d2[i]! y) (by rw [h1.1]; omega) h2 (fun j q1 q2 i q3 q4 => by rw [h1.2.1 j (Or.inr q1)]; exact k1 i q3 q4 j q1 q2)
  refine Rise.join (r1.congr fun x q1 q2 => h2.2.1 x (Or.inl q2)) r2 fun i j q1 q2 q3 q4 => ?_
  rw [h2.2.1 i (Or.inl q2)]
  exact k2 j q3 q4 i q1 q2
end
end Go.Proofs.YtckammgnmgkieaaGreat.Stb

/-
  Records: plain data, their order, rows in their own order.
-/
namespace Go.Proofs.YtckammgnmgkieaaGreat
set_option maxRecDepth 20000
open Go.RowKit Go.Shelf
open Stb (COrd)

theorem cord_orI {α : Type} {f g : α → α → Int} (hf : COrd f) (hg : COrd g) : COrd (fun a b => orI (f a b) (g a b)) := by
  refine ⟨fun x y => orI_swap (hf.anti x y) (hg.anti x y), fun x y z h1 h2 => ?_⟩
  have a1 := hf.anti x y; have a2 := hf.anti y z; have a3 := hf.anti x z
  have t1 := hf.trans x y z; have t2 := hf.trans y z x; have t3 := hf.trans z x y
  have u1 := hg.trans x y z
  unfold orI at *
  by_cases c1 : f x y = 0 <;> by_cases c2 : f y z = 0 <;> by_cases c3 : f x z = 0 <;> simp only [c1, c2, c3, if_true, if_false] at h1 h2 ⊢ <;> first | omega | exact u1 h1 h2
theorem cord_on {α β : Type} {f : β → β → Int} (hf : COrd f) (p : α → β) : COrd (fun a b => f (p a) (p b)) := ⟨fun _ _ => hf.anti _ _, fun _ _ _ => hf.trans _ _ _⟩
theorem cord_cmpI : COrd cmpI := ⟨cmpI_swap, fun a b c => by
  rcases cmpI_cases a b with ⟨h, h2⟩ | ⟨h, h2⟩ | ⟨h, h2⟩ <;> rcases cmpI_cases b c with ⟨g, g2⟩ | ⟨g, g2⟩ | ⟨g, g2⟩ <;> rcases cmpI_cases a c with ⟨k, k2⟩ | ⟨k, k2⟩ | ⟨k, k2⟩ <;> omega⟩
theorem cmpL_trans {α : Type} {f : α → α → Int} (hf : COrd f) : ∀ a b c : List α, cmpL f a b ≤ 0 → cmpL f b c ≤ 0 → cmpL f a c ≤ 0
  | [], [], _, _, h2 => h2
  | [], _ :: _, [], _, _ => by simp [cmpL]
  | [], _ :: _, _ :: _, _, _ => by simp [cmpL]
  | _ :: _, [], _, h1, _ => by simp [cmpL] at h1
  | _ :: _, _ :: _, [], _, h2 => by simp [cmpL] at h2
  | x :: r, y :: s, z :: t, h1, h2 => by
    have ih := cmpL_trans hf r s t
    have a1 := hf.anti x y; have a2 := hf.anti y z; have a3 := hf.anti x z
    have t1 := hf.trans x y z; have t2 := hf.trans y z x; have t3 := hf.trans z x y
    simp only [cmpL] at *
    by_cases c1 : f x y = 0 <;> by_cases c2 : f y z = 0 <;> by_cases c3 : f x z = 0 <;> simp only [c1, c2, c3, if_true, if_false] at h1 h2 ⊢ <;> first | omega | exact ih h1 h2
theorem cord_cmpL {α : Type} {f : α → α → Int} (hf : COrd f) : COrd (cmpL f) := ⟨fun x y => cmpL_swap hf.anti x y, cmpL_trans hf⟩
theorem cord_compareN : COrd compareN := ⟨compareN_swap, compareN_trans⟩
theorem cord_orderM : COrd orderM := by
  have e : orderM = cmpL cmpB := by funext a b; exact orderM_cmpL a b
  rw [e]
  exact cord_cmpL (cord_on cord_cmpI (fun b : UInt8 => (b.toNat : Int)))
theorem cord_compareD : COrd compareD :=
  cord_orI (cord_on cord_cmpI Dat.ty) (cord_orI (cord_on (cord_cmpL cord_compareN) Dat.names) (cord_orI (cord_on (cord_cmpL (cord_on cord_cmpI (fun n : Nat => (n : Int)))) Dat.nums) (cord_orI (cord_on (cord_cmpL cord_orderM) Dat.texts) (cord_on (cord_cmpL (cord_on cord_cmpI (fun b : UInt8 => (b.toNat : Int)))) Dat.raw))))

structure Rc where
  owner : Nm
  ttl : Nat
  data : Dat
def compareR (a b : Rc) : Int := orI (compareN a.owner b.owner) (compareD a.data b.data)
def sameR (a b : Rc) : Bool := compareR a b == 0
theorem cord_compareR : COrd compareR := cord_orI (cord_on cord_compareN Rc.owner) (cord_on cord_compareD Rc.data)
theorem compareR_range (a b : Rc) : compareR a b = -1 ∨ compareR a b = 0 ∨ compareR a b = 1 := orI_range (compareN_range _ _) (compareD_range _ _)
theorem compareR_self (a : Rc) : compareR a a = 0 := by have := cord_compareR.anti a a; omega

def minT (a b : Nat) : Nat := if b < a then b else a
def insR : List Rc → Rc → List Rc
  | [], x => [x]
  | y :: r, x => if compareR y x < 0 then y :: insR r x else if compareR y x = 0 then ⟨y.owner, minT y.ttl x.ttl, y.data⟩ :: r else x :: y :: r
def canonM (l : List Rc) : List Rc := l.foldl insR []

def insS : List Rc → Rc → List Rc
  | [], x => [x]
  | y :: r, x => if compareR y x ≤ 0 then y :: insS r x else x :: y :: r
def sortM (l : List Rc) : List Rc := l.foldl insS []
def leastM (t : Nat) (l : List Rc) : Nat := l.foldl (fun m x => minT m x.ttl) t
def grpM : Nat → List Rc → List Rc
  | 0, _ => []
  | _, [] => []
  | n + 1, y :: r => ⟨y.owner, leastM y.ttl (r.takeWhile (sameR y)), y.data⟩ :: grpM n (r.dropWhile (sameR y))
theorem grpM_more : ∀ (n m : Nat) (l : List Rc), l.length ≤ n → l.length ≤ m → grpM n l = grpM m l
  | 0, 0, l, _, _ => rfl
  | 0, m + 1, l, h, _ => by
    have : l = [] := List.eq_nil_of_length_eq_zero (by omega)
    subst this; rfl
  | n + 1, 0, l, _, h => by
    have : l = [] := List.eq_nil_of_length_eq_zero (by omega)
    subst this; rfl
  | n + 1, m + 1, [], _, _ => rfl
  | n + 1, m + 1, y :: r, h1, h2 => by
    have hl : (r.dropWhile (sameR y)).length ≤ r.length := (List.dropWhile_sublist _).length_le
    simp only [List.length_cons] at h1 h2
    simp only [grpM]
    rw [grpM_more n m _ (by omega) (by omega)]
def grp (l : List Rc) : List Rc := grpM l.length l
theorem grp_cons (y : Rc) (r : List Rc) : grp (y :: r) = ⟨y.owner, leastM y.ttl (r.takeWhile (sameR y)), y.data⟩ :: grp (r.dropWhile (sameR y)) := by
  have hl : (r.dropWhile (sameR y)).length ≤ r.length := (List.dropWhile_sublist _).length_le
  unfold grp
  simp only [List.length_cons, grpM]
  rw [grpM_more r.length _ _ hl (Nat.le_refl _)]
theorem grp_nil : grp [] = [] := rfl

def RisesR (l : List Rc) : Prop := l.Pairwise fun a b => compareR a b ≤ 0

theorem insS_eq {y x : Rc} (hyx : compareR y x = 0) : ∀ (E R : List Rc), (∀ e ∈ E, compareR y e = 0) → (∀ z ∈ R.head?, 0 < compareR z y) → insS (E ++ R) x = E ++ x :: R
  | [], R, _, h => by
    cases R with
    | nil => rfl
    | cons z R =>
      have hz : 0 < compareR z y := h z (by simp)
      have t := cord_compareR.trans z x y
      have a := cord_compareR.anti x y
      have : ¬ compareR z x ≤ 0 := by intro hh; have := t hh (by have := cord_compareR.anti y x; omega); omega
      simp [insS, this]
  | e :: E, R, h1, h2 => by
    have he : compareR y e = 0 := h1 e (by simp)
    have t := cord_compareR.trans e y x
    have a := cord_compareR.anti y e
    have : compareR e x ≤ 0 := t (by omega) (by omega)
    simp only [List.cons_append, insS, if_pos this]
    rw [insS_eq hyx E R (fun e h => h1 e (by simp [h])) h2]
theorem insS_lt {y x : Rc} (hyx : compareR y x < 0) : ∀ (E R : List Rc), (∀ e ∈ E, compareR y e = 0) → insS (E ++ R) x = E ++ insS R x
  | [], R, _ => rfl
  | e :: E, R, h1 => by
    have he : compareR y e = 0 := h1 e (by simp)
    have t := cord_compareR.trans e y x
    have a := cord_compareR.anti y e
    have : compareR e x ≤ 0 := t (by omega) (by omega)
    simp only [List.cons_append, insS, if_pos this]
    rw [insS_lt hyx E R (fun e h => h1 e (by simp [h]))]
theorem leastM_snoc (t : Nat) (E : List Rc) (x : Rc) : leastM t (E ++ [x]) = minT (leastM t E) x.ttl := by simp [leastM, List.foldl_append]
theorem takeWhile_app {p : Rc → Bool} : ∀ (E R : List Rc), (∀ e ∈ E, p e = true) → (∀ z ∈ R.head?, p z = false) → (E ++ R).takeWhile p = E ∧ (E ++ R).dropWhile p = R
  | [], [], _, _ => ⟨rfl, rfl⟩
  | [], z :: R, _, h => by
    have : p z = false := h z (by simp)
    simp [this]
  | e :: E, R, h1, h2 => by
    have he := h1 e (by simp)
    have ih := takeWhile_app E R (fun e h => h1 e (by simp [h])) h2
    simp only [List.cons_append, List.takeWhile_cons, List.dropWhile_cons, he, if_true]
    exact ⟨by rw [ih.1], ih.2⟩
theorem insS_mem {x : Rc} : ∀ (l : List Rc) (z : Rc), z ∈ insS l x → z = x ∨ z ∈ l
  | [], z, h => by simp [insS] at h; exact .inl h
  | y :: r, z, h => by
    simp only [insS] at h
    split at h
    · rcases List.mem_cons.1 h with rfl | h
      · simp
      · rcases insS_mem r z h with h | h <;> simp [h]
    · simp at h; rcases h with h | h | h <;> simp [h]
theorem insS_head {x : Rc} (l : List Rc) (z : Rc) (h : z ∈ (insS l x).head?) : z = x ∨ z ∈ l.head? := by
  cases l with
  | nil => simp [insS] at h; exact .inl h.symm
  | cons y r =>
    simp only [insS] at h
    split at h
    · right; simpa using h
    · left; simp at h; exact h.symm

theorem dropWhile_head (p : Rc → Bool) : ∀ (l : List Rc) (z : Rc), z ∈ (l.dropWhile p).head? → p z = false
  | [], z, h => by simp at h
  | y :: r, z, h => by
    rw [List.dropWhile_cons] at h
    split at h
    · exact dropWhile_head p r z h
    · rename_i hy
      simp at h; subst h; simpa using hy

theorem grp_insS (x : Rc) : ∀ (n : Nat) (l : List Rc), l.length ≤ n → RisesR l → grp (insS l x) = insR (grp l) x
  | _, [], _, _ => by simp [insS, grp_cons, grp_nil, insR, leastM]
  | 0, y :: r, h, _ => by simp at h
  | n + 1, y :: r, h, hR => by
    have hl : (r.dropWhile (sameR y)).length ≤ r.length := (List.dropWhile_sublist _).length_le
    have hp := List.takeWhile_append_dropWhile (p := sameR y) (l := r)
    have hE : ∀ e ∈ r.takeWhile (sameR y), compareR y e = 0 := fun e he => by
      have hh : ∀ (l : List Rc), e ∈ l.takeWhile (sameR y) → sameR y e = true := by
        intro l
        induction l with
        | nil => intro h; simp at h
        | cons a l ih =>
          intro h
          rw [List.takeWhile_cons] at h
          split at h
          · rename_i ha
            rcases List.mem_cons.1 h with rfl | h
            · exact ha
            · exact ih h
          · simp at h
      have := hh r he
      simpa [sameR] using this
    have hH : ∀ z ∈ (r.dropWhile (sameR y)).head?, 0 < compareR z y := fun z hz => by
      have h1 := dropWhile_head (sameR y) r z hz
      have h2 : z ∈ r := (List.dropWhile_sublist _).mem (List.mem_of_mem_head? hz)
      have h3 : compareR y z ≤ 0 := (List.pairwise_cons.1 hR).1 z h2
      have := cord_compareR.anti y z
      simp [sameR] at h1
      omega
    have hRR : RisesR (r.dropWhile (sameR y)) := List.Pairwise.sublist (List.dropWhile_sublist _) (List.pairwise_cons.1 hR).2
    simp only [List.length_cons] at h
    generalize hEE : r.takeWhile (sameR y) = E at *
    generalize hDD : r.dropWhile (sameR y) = R at *
    have hEs : ∀ e ∈ E, sameR y e = true := fun e he => by simp [sameR, hE e he]
    rw [grp_cons, hEE, hDD]
    have hcy : ∀ t, compareR ⟨y.owner, t, y.data⟩ x = compareR y x := fun t => rfl
    simp only [insR, hcy]
    by_cases c : compareR y x < 0
    · rw [if_pos c]
      have e1 : insS (y :: r) x = y :: (E ++ insS R x) := by
        simp only [insS, if_pos (show compareR y x ≤ 0 by omega)]
        rw [← hp, insS_lt c E R hE]
      rw [e1, grp_cons]
      have hh : ∀ z ∈ (insS R x).head?, sameR y z = false := fun z hz => by
        rcases insS_head R z hz with rfl | hz
        · simp [sameR]; omega
        · have := hH z hz
          have := cord_compareR.anti y z
          simp [sameR]; omega
      obtain ⟨t1, t2⟩ := takeWhile_app E (insS R x) hEs hh
      rw [t1, t2, grp_insS x n R (by omega) hRR]
    · rw [if_neg c]
      by_cases c0 : compareR y x = 0
      · rw [if_pos c0]
        have e1 : insS (y :: r) x = y :: (E ++ [x] ++ R) := by
          simp only [insS, if_pos (show compareR y x ≤ 0 by omega)]
          rw [← hp, insS_eq c0 E R hE hH]; simp
        rw [e1, grp_cons]
        have hh : ∀ z ∈ R.head?, sameR y z = false := fun z hz => by
          have := hH z hz
          have := cord_compareR.anti y z
          simp [sameR]; omega
        obtain ⟨t1, t2⟩ := takeWhile_app (E ++ [x]) R (fun e he => by
          rcases List.mem_append.1 he with he | he
          · exact hEs e he
          · simp at he; subst he; simp [sameR, c0]) hh
        rw [t1, t2, leastM_snoc]
      · rw [if_neg c0]
        have e1 : insS (y :: r) x = x :: y :: r := by simp only [insS, if_neg (show ¬ compareR y x ≤ 0 by omega)]
        rw [e1, grp_cons]
        have hne : sameR x y = false := by
          have := cord_compareR.anti x y
          simp [sameR]; omega
        simp only [List.takeWhile_cons, List.dropWhile_cons, hne, Bool.false_eq_true, if_false]
        rw [grp_cons, hEE, hDD]
        rfl

theorem insS_rises {x : Rc} : ∀ (l : List Rc), RisesR l → RisesR (insS l x)
  | [], _ => by simp [insS, RisesR]
  | y :: r, h => by
    have h1 := List.pairwise_cons.1 h
    simp only [insS]
    split
    · rename_i c
      refine List.pairwise_cons.2 ⟨fun z hz => ?_, insS_rises r h1.2⟩
      rcases insS_mem r z hz with rfl | hz
      · exact c
      · exact h1.1 z hz
    · rename_i c
      have hxy : compareR x y ≤ 0 := by have := cord_compareR.anti x y; omega
      refine List.pairwise_cons.2 ⟨fun z hz => ?_, h⟩
      rcases List.mem_cons.1 hz with rfl | hz
      · exact hxy
      · exact cord_compareR.trans _ _ _ hxy (h1.1 z hz)
theorem grp_sortM (l : List Rc) : grp (sortM l) = canonM l := by
  unfold sortM canonM
  suffices ∀ (l a b : List Rc), RisesR a → grp a = b → grp (l.foldl insS a) = l.foldl insR b from this l [] [] List.Pairwise.nil rfl
  intro l
  induction l with
  | nil => intro a b _ h; exact h
  | cons x l ih =>
    intro a b h hb
    exact ih _ _ (insS_rises a h) (by rw [grp_insS x a.length a (Nat.le_refl _) h, hb])
end Go.Proofs.YtckammgnmgkieaaGreat

/-
  The stable sort, block by block: what its loops keep.
-/
namespace Go.Proofs.YtckammgnmgkieaaGreat.Stb
open Go.Sort
set_option linter.unusedSectionVars false
variable {α : Type} [Inhabited α] {cf : α → α → Int} {tg : α → Nat}

def lb (cf : α → α → Int) (x y : α) : Bool := decide (cf x y < 0)

structure InsR (cf : α → α → Int) (tg : α → Nat) (a j i : Nat) (d : Array α) : Prop where
  rest : ∀ p q, a ≤ p → p < q → q ≤ i → p ≠ j → q ≠ j → Lx cf tg d[p]! d[q]!
  right : ∀ q, j < q → q ≤ i → Lx cf tg d[j]! d[q]!
  most : ∀ q, a ≤ q → q ≤ i → q ≠ j → tg d[q]! < tg d[j]!

theorem InsR.stop (hO : COrd cf) {a j i : Nat} {d : Array α} (h : InsR cf tg a j i d) (haj : a ≤ j) (hji : j ≤ i) (hs : j ≤ a ∨ lb cf d[j]! d[j - 1]! = false) : Rise cf tg a (i + 1) d := by
  have hl : ∀ p, a ≤ p → p < j → Lx cf tg d[p]! d[j]! := fun p h1 h2 => by
    rcases hs with hs | hs
    · omega
    · have hx : Lx cf tg d[j - 1]! d[j]! := Lx.of_not hO (h.most _ (by omega) (by omega) (by omega)) (by simpa [lb] using hs)
      by_cases e : p = j - 1
      · subst e; exact hx
      · exact (h.rest p (j - 1) h1 (by omega) (by omega) (by omega) (by omega)).trans hO hx
  intro p q hap hpq hqi
  by_cases hq : q = j
  · subst hq; exact hl p hap hpq
  · by_cases hp : p = j
    · subst hp; exact h.right q hpq (by omega)
    · exact h.rest p q hap hpq (by omega) hp hq

theorem InsR.step {a j i : Nat} {d : Array α} (h : InsR cf tg a (j + 1) i d) (hl : lb cf d[j + 1]! d[j]! = true) (haj : a ≤ j) (hji : j + 1 ≤ i) (hsz : j + 1 < d.size) : InsR cf tg a j i (swp d (j + 1) j) := by
  have g := swp_get d hsz (show j < d.size by omega)
  have hl' : cf d[j + 1]! d[j]! < 0 := by simpa [lb] using hl
  refine ⟨fun p q hap hpq hqi hp hq => ?_, fun q hjq hqi => ?_, fun q haq hqi hq => ?_⟩
  · rw [g, g]
    repeat' split
    all_goals first
      | (exfalso; omega)
      | exact h.rest _ _ (by omega) (by omega) (by omega) (by omega) (by omega)
  · rw [g, g, if_pos rfl]
    repeat' split
    all_goals first
      | (exfalso; omega)
      | exact Or.inl hl'
      | exact h.right _ (by omega) (by omega)
  · rw [g, g, if_pos rfl]
    repeat' split
    all_goals first
      | (exfalso; omega)
      | exact h.most _ (by omega) (by omega) (by omega)

theorem insInner_rise (hO : COrd cf) (a i : Nat) : ∀ (j : Nat) (d : Array α), a ≤ j → j ≤ i → i + 1 ≤ d.size → InsR cf tg a j i d →
    PermIn a (i + 1) d (insInner (lb cf) a j d) ∧ Rise cf tg a (i + 1) (insInner (lb cf) a j d)
  | 0, d, h1, h2, _, hI => by
    unfold insInner
    exact ⟨permIn_refl d a _, hI.stop hO h1 h2 (Or.inl (Nat.zero_le _))⟩
  | j + 1, d, haj, hji, hb, hI => by
    unfold insInner
    split
    · rename_i hc
      simp only [Bool.and_eq_true, decide_eq_true_eq] at hc
      have ih := insInner_rise hO a i j (swp d (j + 1) j) (by omega) (by omega) (by rw [swp_size]; exact hb) (hI.step hc.2 (by omega) hji (by omega))
      exact ⟨permIn_trans _ _ _ a (i + 1) (swp_permIn d a (i + 1) (j + 1) j haj (by omega) (by omega) (by omega) hb) ih.1, ih.2⟩
    · rename_i hc
      simp only [Bool.and_eq_true, decide_eq_true_eq, not_and, Bool.not_eq_true] at hc
      refine ⟨permIn_refl d a _, hI.stop hO haj hji ?_⟩
      by_cases h : j + 1 > a
      · exact Or.inr (by simpa using hc h)
      · exact Or.inl (by omega)

theorem insOuter_rise (hO : COrd cf) (a b : Nat) : ∀ (n i : Nat) (d : Array α), b - i = n → a < i → i ≤ b → b ≤ d.size → Rise cf tg a i d → (∀ p q, a ≤ p → p < q → i ≤ q → q < b → tg d[p]! < tg d[q]!) →
    PermIn a b d (insOuter (lb cf) a b i d) ∧ Rise cf tg a b (insOuter (lb cf) a b i d)
  | 0, i, d, hn, _, hib, _, hs, _ => by
    obtain rfl : i = b := by omega
    rw [insOuter, if_neg (by omega)]
    exact ⟨permIn_refl d a i, hs⟩
  | n + 1, i, d, hn, hai, hib, hb, hs, ht => by
    have hlt : i < b := by omega
    rw [insOuter, if_pos hlt]
    have h1 := insInner_rise hO a i i d (by omega) (Nat.le_refl _) (by omega) ⟨fun p q hap hpq hqi _ hq => hs p q hap hpq (by omega), fun q h1 h2 => by omega, fun q h1 h2 h3 => ht q i h1 (by omega) (Nat.le_refl _) hlt⟩
    have hp := h1.1
    have ht2 : ∀ p q, a ≤ p → p < q → i + 1 ≤ q → q < b → tg (insInner (lb cf) a i d)[p]! < tg (insInner (lb cf) a i d)[q]! := fun p q g1 g2 g3 g4 => by
      rw [hp.2.1 q (Or.inr g3)]
      by_cases hpi : p < i + 1
      · exact permIn_all d _ a (i + 1) (fun x => tg x < tg d[q]!) (by omega) hp (fun k k1 k2 => ht k q k1 (by omega) (by omega) g4) p g1 hpi
      · rw [hp.2.1 p (Or.inr (by omega))]; exact ht p q g1 g2 (by omega) g4
    have h2 := insOuter_rise hO a b n (i + 1) (insInner (lb cf) a i d) (by omega) (by omega) (by omega) (by rw [hp.1]; exact hb) h1.2 ht2
    exact ⟨permIn_trans _ _ _ a b (permIn_mono _ _ a (i + 1) a b (Nat.le_refl _) (by omega) hb hp) h2.1, h2.2⟩

theorem insertion_rise (hO : COrd cf) (d : Array α) (a b : Nat) (hab : a ≤ b) (hb : b ≤ d.size) (ht : ∀ p q, a ≤ p → p < q → q < b → tg d[p]! < tg d[q]!) :
    PermIn a b d (insertionSort (lb cf) d a b) ∧ Rise cf tg a b (insertionSort (lb cf) d a b) := by
  unfold insertionSort
  by_cases h : a = b
  · subst h
    rw [insOuter, if_neg (by omega)]
    exact ⟨permIn_refl d a a, fun i j h1 h2 h3 => by omega⟩
  · exact insOuter_rise hO a b (b - (a + 1)) (a + 1) d rfl (by omega) (by omega) hb (fun i j h1 h2 h3 => by omega) (fun p q h1 h2 h3 h4 => ht p q h1 h2 h4)

structure Blk (cf : α → α → Int) (tg : α → Nat) (s : Nat) (d : Array α) : Prop where
  own : ∀ q i, q * s ≤ i → i < q * s + s → i < d.size → q * s ≤ tg d[i]! ∧ tg d[i]! < q * s + s
  up : ∀ q i j, q * s ≤ i → i < j → j < q * s + s → j < d.size → Lx cf tg d[i]! d[j]!
structure Blk0 (cf : α → α → Int) (tg : α → Nat) (s a : Nat) (d : Array α) : Prop where
  own : ∀ q i, q * s ≤ i → i < q * s + s → i < a → q * s ≤ tg d[i]! ∧ tg d[i]! < q * s + s
  up : ∀ q i j, q * s ≤ i → i < j → j < q * s + s → j < a → Lx cf tg d[i]! d[j]!
  rest : ∀ i, a ≤ i → i < d.size → tg d[i]! = i
theorem Blk0.start {s : Nat} {d : Array α} (h : ∀ i, i < d.size → tg d[i]! = i) : Blk0 cf tg s 0 d := ⟨fun q i h1 h2 h3 => by omega, fun q i j h1 h2 h3 h4 => by omega, fun i _ h1 => h i h1⟩
theorem blk_lt {q r s : Nat} (h : q < r) : q * s + s ≤ r * s := by
  have := Nat.mul_le_mul_right s (show q + 1 ≤ r from h); rwa [Nat.succ_mul] at this
theorem Blk0.tags {s a e : Nat} {d : Array α} (h : Blk0 cf tg s a d) (he : e ≤ d.size) : ∀ p q, a ≤ p → p < q → q < e → tg d[p]! < tg d[q]! := fun p q h1 h2 h3 => by
  rw [h.rest p h1 (by omega), h.rest q (by omega) (by omega)]; exact h2
theorem Blk0.next {s r e : Nat} {d d' : Array α} (h : Blk0 cf tg s (r * s) d) (he : e ≤ d.size) (hae : r * s ≤ e) (hes : e ≤ r * s + s) (hp : PermIn (r * s) e d d') (hr : Rise cf tg (r * s) e d') : Blk0 cf tg s e d' := by
  have lo : ∀ i, i < r * s → d'[i]! = d[i]! := fun i hi => hp.2.1 i (Or.inl hi)
  have mid : ∀ i, r * s ≤ i → i < e → r * s ≤ tg d'[i]! ∧ tg d'[i]! < e := permIn_all d d' (r * s) e (fun x => r * s ≤ tg x ∧ tg x < e) he hp (fun i h1 h2 => by rw [h.rest i h1 (by omega)]; exact ⟨h1, h2⟩)
  refine ⟨fun q i h1 h2 h3 => ?_, fun q i j h1 h2 h3 h4 => ?_, fun i h1 h2 => ?_⟩
  · by_cases hi : i < r * s
    · rw [lo i hi]; exact h.own q i h1 h2 hi
    · have hqr : q = r := by
        rcases Nat.lt_trichotomy q r with hh | hh | hh
        · have := blk_lt (s := s) hh; omega
        · exact hh
        · have := blk_lt (s := s) hh; omega
      subst hqr
      have := mid i (by omega) h3
      omega
  · by_cases hj : j < r * s
    · rw [lo i (by omega), lo j hj]; exact h.up q i j h1 h2 h3 hj
    · have hqr : q = r := by
        rcases Nat.lt_trichotomy q r with hh | hh | hh
        · have := blk_lt (s := s) hh; omega
        · exact hh
        · have := blk_lt (s := s) hh; omega
      subst hqr
      exact hr i j h1 h2 h4
  · rw [hp.2.1 i (Or.inr h1)]
    exact h.rest i (by omega) (by rw [← hp.1]; exact h2)
theorem Blk0.whole {s : Nat} {d : Array α} (h : Blk0 cf tg s d.size d) : Blk cf tg s d := ⟨h.own, h.up⟩
theorem Blk.rise {s : Nat} {d : Array α} (h : Blk cf tg s d) (hs : d.size ≤ s) : Rise cf tg 0 d.size d := fun i j _ h2 h3 => h.up 0 i j (by omega) h2 (by omega) h3

structure Blk2 (cf : α → α → Int) (tg : α → Nat) (s a : Nat) (d : Array α) : Prop where
  own2 : ∀ q i, q * (2 * s) ≤ i → i < q * (2 * s) + 2 * s → i < d.size → q * (2 * s) ≤ tg d[i]! ∧ tg d[i]! < q * (2 * s) + 2 * s
  own : ∀ q i, a ≤ i → q * s ≤ i → i < q * s + s → i < d.size → q * s ≤ tg d[i]! ∧ tg d[i]! < q * s + s
  up2 : ∀ q i j, q * (2 * s) ≤ i → i < j → j < q * (2 * s) + 2 * s → j < a → Lx cf tg d[i]! d[j]!
  up : ∀ q i j, a ≤ i → q * s ≤ i → i < j → j < q * s + s → j < d.size → Lx cf tg d[i]! d[j]!
theorem twice (q s : Nat) : q * (2 * s) = 2 * q * s ∧ (2 * q + 1) * s = 2 * q * s + s := ⟨by rw [← Nat.mul_assoc, Nat.mul_comm q 2], by rw [Nat.succ_mul]⟩
theorem Blk2.start {s : Nat} {d : Array α} (h : Blk cf tg s d) : Blk2 cf tg s 0 d := by
  refine ⟨fun q i h1 h2 h3 => ?_, fun q i _ => h.own q i, fun q i j h1 h2 h3 h4 => by omega, fun q i j _ => h.up q i j⟩
  obtain ⟨e1, e2⟩ := twice q s
  by_cases hi : i < 2 * q * s + s
  · have := h.own (2 * q) i (by omega) hi h3; omega
  · have := h.own (2 * q + 1) i (by omega) (by omega) h3; omega
theorem Blk2.mrg {s r e : Nat} {d : Array α} (h : Blk2 cf tg s (r * (2 * s)) d) (hs : 0 < s) (he : e ≤ d.size) (h1 : r * (2 * s) + s < e) (h2 : e ≤ r * (2 * s) + 2 * s) : Mrg cf tg (r * (2 * s)) (r * (2 * s) + s) e d := by
  obtain ⟨e1, e2⟩ := twice r s
  refine ⟨by omega, h1, he, fun i j g1 g2 g3 => h.up (2 * r) i j g1 (by omega) g2 (by omega) (by omega), fun i j g1 g2 g3 => h.up (2 * r + 1) i j (by omega) (by omega) g2 (by omega) (by omega), fun i j g1 g2 g3 g4 => ?_⟩
  have a1 := h.own (2 * r) i g1 (by omega) (by omega) (by omega)
  have a2 := h.own (2 * r + 1) j (by omega) (by omega) (by omega) (by omega)
  omega
theorem Blk2.next {s r e : Nat} {d d' : Array α} (h : Blk2 cf tg s (r * (2 * s)) d) (he : e ≤ d.size) (h1 : r * (2 * s) ≤ e) (h2 : e ≤ r * (2 * s) + 2 * s) (h3 : e = r * (2 * s) + 2 * s ∨ e = d.size) (hp : PermIn (r * (2 * s)) e d d') (hr : Rise cf tg (r * (2 * s)) e d') : Blk2 cf tg s e d' := by
  obtain ⟨e1, e2⟩ := twice r s
  have lo : ∀ i, i < r * (2 * s) → d'[i]! = d[i]! := fun i hi => hp.2.1 i (Or.inl hi)
  have up : ∀ i, e ≤ i → d'[i]! = d[i]! := fun i hi => hp.2.1 i (Or.inr hi)
  have mid : ∀ i, r * (2 * s) ≤ i → i < e → r * (2 * s) ≤ tg d'[i]! ∧ tg d'[i]! < r * (2 * s) + 2 * s := permIn_all d d' _ e (fun x => r * (2 * s) ≤ tg x ∧ tg x < r * (2 * s) + 2 * s) he hp (fun i k1 k2 => h.own2 r i k1 (by omega) (by omega))
  have hsz := hp.1
  refine ⟨fun q i k1 k2 k3 => ?_, fun q i k0 k1 k2 k3 => ?_, fun q i j k1 k2 k3 k4 => ?_, fun q i j k0 k1 k2 k3 k4 => ?_⟩
  · by_cases hi : i < r * (2 * s)
    · rw [lo i hi]; exact h.own2 q i k1 k2 (by omega)
    · by_cases hie : i < e
      · have hqr : q = r := by
          rcases Nat.lt_trichotomy q r with hh | hh | hh
          · have := blk_lt (s := 2 * s) hh; omega
          · exact hh
          · have := blk_lt (s := 2 * s) hh; omega
        subst hqr
        exact mid i (by omega) hie
      · rw [up i (by omega)]; exact h.own2 q i k1 k2 (by omega)
  · rw [up i k0]; exact h.own q i (by omega) k1 k2 (by omega)
  · by_cases hj : j < r * (2 * s)
    · rw [lo i (by omega), lo j hj]; exact h.up2 q i j k1 k2 k3 hj
    · have hqr : q = r := by
        rcases Nat.lt_trichotomy q r with hh | hh | hh
        · have := blk_lt (s := 2 * s) hh; omega
        · exact hh
        · have := blk_lt (s := 2 * s) hh; omega
      subst hqr
      exact hr i j k1 k2 k4
  · rw [up i k0, up j (by omega)]; exact h.up q i j (by omega) k1 k2 k3 (by omega)
theorem Blk2.short {s r : Nat} {d : Array α} (h : Blk2 cf tg s (r * (2 * s)) d) (h1 : d.size ≤ r * (2 * s) + s) : Rise cf tg (r * (2 * s)) d.size d := by
  obtain ⟨e1, e2⟩ := twice r s
  exact fun i j g1 g2 g3 => h.up (2 * r) i j g1 (by omega) g2 (by omega) g3
theorem Blk2.whole {s a : Nat} {d : Array α} (h : Blk2 cf tg s a d) (ha : d.size ≤ a) : Blk cf tg (2 * s) d := ⟨h.own2, fun q i j h1 h2 h3 h4 => h.up2 q i j h1 h2 h3 (by omega)⟩
end Go.Proofs.YtckammgnmgkieaaGreat.Stb

/-
  The worlds of a sort in place: a row of the call's own, all else as it lay.
-/
namespace Go.Proofs.YtckammgnmgkieaaGreat
set_option maxRecDepth 20000
open Go.RowKit Go.Shelf Go.Sort Go.Lib
set_option linter.unusedSectionVars false

section
variable {α : Type} [Inhabited α]
structure SW (enc : α → List Value) (k : Nat) (w : World) (blk off : Nat) (d : Array α) (W : World) : Prop where
  row : HoldsK enc k W blk off d
  rest : w.grownBy W (some blk)
  lt : blk < w.heap.size
theorem SW.refl {enc : α → List Value} {k : Nat} {w : World} {blk off : Nat} {d : Array α} (h : HoldsK enc k w blk off d) (hlt : blk < w.heap.size) : SW enc k w blk off d w := ⟨h, kg_refl w _, hlt⟩
theorem SW.drew {enc : α → List Value} {k : Nat} {w W : World} {blk off : Nat} {d : Array α} (h : SW enc k w blk off d W) : SW enc k w blk off d W.drew := ⟨h.row, kg_trans h.rest (kg_drew W _), h.lt⟩
theorem kg_below {W W' : World} (r : Option Nat) (hb : Below W.heap.size W W') : W.grownBy W' r := ⟨hb.os, hb.tape, hb.output, hb.size, fun k hk _ => hb.block k hk⟩
theorem SW.lt' {enc : α → List Value} {k : Nat} {w W : World} {blk off : Nat} {d : Array α} (h : SW enc k w blk off d W) : blk < W.heap.size := Nat.lt_of_lt_of_le h.lt h.rest.size
theorem SW.below {enc : α → List Value} {k : Nat} {w W W' : World} {blk off : Nat} {d : Array α} (h : SW enc k w blk off d W) (hb : Below W.heap.size W W') : SW enc k w blk off d W' := by
  refine ⟨fun j hj => ?_, kg_trans h.rest (kg_below _ hb), h.lt⟩
  have h1 := h.row j hj
  exact ⟨(hb.cell (p := ⟨blk, off + j, none⟩) h.lt').trans h1.1, (hb.frozen (p := ⟨blk, off + j, none⟩) h.lt').trans h1.2⟩
theorem SW.trans {enc : α → List Value} {k : Nat} {w W W' : World} {blk off : Nat} {d d' : Array α} (h : SW enc k w blk off d W) (g : SW enc k W blk off d' W') : SW enc k w blk off d' W' := ⟨g.row, kg_trans h.rest g.rest, h.lt⟩
theorem kg_setCells (blk : Nat) : ∀ (vs : List Value) (o : Nat) (w : World), w.grownBy (w.setCells blk o vs) (some blk)
  | [], _, w => kg_refl w _
  | v :: r, o, w => by
    rw [World.setCells]
    exact kg_trans (kgrown_set w blk o v) (kg_setCells blk r (o + 1) _)
theorem SW.swap {enc : α → List Value} {k : Nat} {w W : World} {blk off : Nat} {d : Array α} (hk : ∀ x, (enc x).length = k) (h : SW enc k w blk off d W) (i j : Nat) (hi : i < d.size) (hj : j < d.size) :
    SW enc k w blk off (swp d i j) ((W.setCells blk (off + i * k) (enc d[j]!)).setCells blk (off + j * k) (enc d[i]!)) := by
  refine ⟨?_, kg_trans (kg_trans h.rest (kg_setCells _ _ _ _)) (kg_setCells _ _ _ _), h.lt⟩
  have e : (W.setCells blk (off + i * k) (enc d[j]!)).setCells blk (off + j * k) (enc d[i]!) = putRowK enc k W blk off (swp d i j) := by
    conv => lhs; rw [← putRowK_self enc k W blk off d h.row]
    exact putRowK_swp enc k hk W blk off d i j hi hj
  rw [e]
  exact holdsK_putRowK enc k W blk off d _ h.row (by rw [size_swp])
theorem holds_setCells_c {W : World} {blk off : Nat} {F : Array Value} (h : Holds id W blk off F) (s : Nat) (vs : List Value) (hs : s + vs.length ≤ F.size) : Holds id (W.setCells blk (off + s) vs) blk off (setMany F s vs) := by
  have e : W.setCells blk (off + s) vs = putRow id W blk off (setMany F s vs) := by
    conv => lhs; rw [← putRow_self id W blk off F h]
    exact setCells_putRow _ _ _ _ _ _ hs
  rw [e]
  exact holds_putRow id W blk off F _ h (by rw [size_setMany])
theorem SW.load {enc : α → List Value} {k : Nat} {w W : World} {blk off : Nat} {d : Array α} (P : Program) (hk : ∀ x, (enc x).length = k) (h : SW enc k w blk off d W) (i : Nat) (hi : i < d.size) :
    Sem.run P (loadCellsFrom ⟨blk, off + i * k, none⟩ 0 k #[]) W = .ok (enc d[i]!).toArray W := run_loadCellsFrom_list P _ _ _ k (hk _) (HoldsK.cells h.row hk hi)
theorem bnd_k {n x k : Nat} (hx : x < n) : x * k + k ≤ n * k := by
  have := Nat.mul_le_mul_right k (show x + 1 ≤ n from hx); rwa [Nat.add_mul, Nat.one_mul] at this
theorem SW.store1 {enc : α → List Value} {k : Nat} {w W : World} {blk off : Nat} {d : Array α} (P : Program) (hk : ∀ x, (enc x).length = k) (h1 : ∀ x, ∀ v ∈ enc x, v.oneCell' = true) (h : SW enc k w blk off d W) (i : Nat) (hi : i < d.size) (x : α) :
    Sem.run P (storeCells ⟨blk, off + i * k, none⟩ (enc x) 0) W = .ok () (W.setCells blk (off + i * k) (enc x)) := stores_of_holds P h.row (i * k) _ (by rw [hk, size_flatK]; exact bnd_k hi) (h1 _)
theorem SW.store2 {enc : α → List Value} {k : Nat} {w W : World} {blk off : Nat} {d : Array α} (P : Program) (hk : ∀ x, (enc x).length = k) (h1 : ∀ x, ∀ v ∈ enc x, v.oneCell' = true) (h : SW enc k w blk off d W) (i j : Nat) (hi : i < d.size) (hj : j < d.size) (x y : α) :
    Sem.run P (storeCells ⟨blk, off + j * k, none⟩ (enc y) 0) (W.setCells blk (off + i * k) (enc x)) = .ok () ((W.setCells blk (off + i * k) (enc x)).setCells blk (off + j * k) (enc y)) :=
  stores_of_holds P (holds_setCells_c h.row (i * k) _ (by rw [hk, size_flatK]; exact bnd_k hi)) (j * k) _ (by rw [hk, size_setMany, size_flatK]; exact bnd_k hj) (h1 _)
end
end Go.Proofs.YtckammgnmgkieaaGreat

