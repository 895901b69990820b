/-
  Data (chapter 4): as plain data; how a value reads as them.
-/
import Derived.Test.YteppgeiejknhoaaMQ29
import Derived.Test.YteppgeiejknhoaaMQ34
import Derived.Test.YteppgeiejknhoaaMQ25
namespace Go.Proofs.Yteppgeiejknhoaa
set_option maxRecDepth 20000
open Go.RowKit Go.Shelf

/-- The slice value v reads as these cells. -/
def SlAt (W : World) (v : Value) (xs : List Value) : Prop :=
  ∃ a c, v = .slice a xs.length c ∧ xs.length ≤ c ∧ (a = none → c = 0) ∧ (xs = [] ∨ ∃ b off, a = some ⟨b, off, none⟩ ∧ b < W.heap.size ∧ ∀ j (hj : j < xs.length), W.cell? ⟨b, off + j, none⟩ = some xs[j])
theorem SlAt.below {W W' : World} {v : Value} {xs : List Value} (h : SlAt W v xs) (hb : Below W.heap.size W W') : SlAt W' v xs := by
  obtain ⟨a, c, e, h1, h2, h⟩ := h
  refine ⟨a, c, e, h1, h2, ?_⟩
  rcases h with h | ⟨b, off, ea, hlt, hc⟩
  · exact .inl h
  · exact .inr ⟨b, off, ea, Nat.lt_of_lt_of_le hlt hb.size, fun j hj => (hb.cell (p := ⟨b, off + j, none⟩) hlt).trans (hc j hj)⟩
theorem SlAt.nil (W : World) : SlAt W (.slice none 0 0) [] := ⟨none, 0, rfl, Nat.le_refl _, fun _ => rfl, .inl rfl⟩
theorem SlAt.ok {W : World} {v : Value} {xs : List Value} (h : SlAt W v xs) : SlOK v := by
  obtain ⟨a, c, rfl, h1, h2, _⟩ := h
  exact ⟨_, _, _, rfl, h1, h2⟩
theorem SlAt.of_own {α : Type} {T : TypeId} {enc : α → Value} {W : World} {base : Nat} {v : Value} {xs : List α} (h : OwnG T enc W base v xs) : SlAt W v (xs.map enc) := by
  have h0 := h
  rcases h.2 with ⟨rfl, h1⟩ | ⟨g, cap, cur, rfl, hb, hg, hc, hm, hsz, htk⟩
  · obtain rfl := List.eq_nil_of_length_eq_zero h1
    exact SlAt.nil W
  · refine ⟨_, _, by rw [List.length_map], by rw [List.length_map]; exact hc, (fun e => by cases e), ?_⟩
    by_cases hne : xs = []
    · subst hne; exact .inl rfl
    · obtain ⟨g', eg, _, hlt, hcl⟩ := h0.cells hne
      cases eg
      refine .inr ⟨g, 0, rfl, hlt, fun j hj => ?_⟩
      rw [Nat.zero_add, hcl j (by simpa using hj), List.getElem_map]
/-- A row that came in. -/
theorem slAt_row {W : World} {x : Addr} {l c : Nat} {V : Nat → Value} {vs : List Value} (hv : vs.length = l) (hl : l ≤ c) (hvs : ∀ j (hj : j < vs.length), vs[j] = V j)
    (hcell : ∀ i, i < c → W.cell? (x.add i) = some (V i)) : SlAt W (.slice (some x) l c) vs := by
  refine ⟨some x, c, by rw [hv], by omega, (fun e => by cases e), ?_⟩
  by_cases h0 : l = 0
  · subst h0; exact .inl (List.eq_nil_of_length_eq_zero hv)
  · right
    obtain ⟨b, off, spot⟩ := x
    have hspot : spot = none := by simpa [Addr.add] using World.cell?_spot (hcell 0 (by omega))
    subst hspot
    have hb : b < W.heap.size := by
      have h := hcell 0 (by omega)
      simp only [Addr.add, if_true] at h
      unfold World.cell? at h
      rcases Nat.lt_or_ge b W.heap.size with h' | h'
      · exact h'
      · rw [Array.getElem?_eq_none h'] at h; simp at h
    refine ⟨b, off, rfl, hb, fun j hj => ?_⟩
    rw [← Go.WideShapes.add_plain, hcell j (by omega), hvs j hj]

theorem nmAt_sl {W : World} {v : Value} {xs : Nm} : NmAt W v xs ↔ SlAt W v (xs.map strV) := by
  constructor
  · rintro ⟨⟨a, c, rfl, h⟩, ⟨a', n', c', e, h1, h2⟩⟩
    cases e
    refine ⟨a, c, by rw [List.length_map], by rw [List.length_map]; exact h1, h2, ?_⟩
    rcases h with rfl | ⟨b, off, ea, hlt, hc⟩
    · exact .inl rfl
    · exact .inr ⟨b, off, ea, hlt, fun j hj => by rw [List.getElem_map]; exact hc j (by simpa using hj)⟩
  · rintro ⟨a, c, e, h1, h2, h⟩
    rw [List.length_map] at e h1
    subst e
    refine ⟨⟨a, c, rfl, ?_⟩, ⟨_, _, _, rfl, h1, h2⟩⟩
    rcases h with h | ⟨b, off, ea, hlt, hc⟩
    · exact .inl (by simpa using h)
    · refine .inr ⟨b, off, ea, hlt, fun j hj => ?_⟩
      rw [hc j (by simpa using hj), List.getElem_map]

/-- A slice of names. -/
def NmsAt (W : World) (v : Value) (ns : List Nm) : Prop := ∃ vs : List Value, SlAt W v vs ∧ ∃ h : vs.length = ns.length, ∀ j (hj : j < vs.length), NmAt W vs[j] (ns[j]'(by omega))
theorem NmsAt.below {W W' : World} {v : Value} {ns : List Nm} (h : NmsAt W v ns) (hb : Below W.heap.size W W') : NmsAt W' v ns := by
  obtain ⟨vs, h1, h2, h3⟩ := h
  exact ⟨vs, h1.below hb, h2, fun j hj => (h3 j hj).below hb⟩
theorem NmsAt.nil (W : World) : NmsAt W (.slice none 0 0) [] := ⟨[], SlAt.nil W, rfl, fun _ hj => absurd hj (Nat.not_lt_zero _)⟩

def u32V (n : Nat) : Value := .int .u32 (n : Int)

/-- Data. -/
structure Dat where
  ty : Int
  names : List Nm
  nums : List Nat
  texts : Nm
  raw : List UInt8

def DatAt (W : World) (v : Value) (d : Dat) : Prop :=
  ∃ vn vu vt vr, v = .agg #[.int .i64 d.ty, vn, vu, vt, vr] ∧ NmsAt W vn d.names ∧ SlAt W vu (d.nums.map u32V) ∧ NmAt W vt d.texts ∧ SlAt W vr (d.raw.map bv)
theorem DatAt.below {W W' : World} {v : Value} {d : Dat} (h : DatAt W v d) (hb : Below W.heap.size W W') : DatAt W' v d := by
  obtain ⟨vn, vu, vt, vr, e, h1, h2, h3, h4⟩ := h
  exact ⟨vn, vu, vt, vr, e, h1.below hb, h2.below hb, h3.below hb, h4.below hb⟩
def Dat.none : Dat := ⟨0, [], [], [], []⟩

/-- Bounds on data that the functions are asked for. -/
def DatOK (d : Dat) : Prop := (-(2 ^ 63) ≤ d.ty ∧ d.ty < 2 ^ 63) ∧ d.names.length ≤ 1048576 ∧ (∀ n ∈ d.names, NmOK n) ∧ d.nums.length ≤ 1048576 ∧ (∀ n ∈ d.nums, n < 2 ^ 32) ∧ NmOK d.texts ∧ d.raw.length ≤ 1048576

end Go.Proofs.Yteppgeiejknhoaa

/-
  Data in their order: plain functions and facts.
-/
namespace Go.Proofs.Yteppgeiejknhoaa
set_option maxRecDepth 20000
open Go.RowKit Go.Shelf

/-- Lists by their items, one by one; who has fewer, ahead. -/
def cmpL {α : Type} (f : α → α → Int) : List α → List α → Int
  | [], [] => 0
  | [], _ :: _ => -1
  | _ :: _, [] => 1
  | x :: r, y :: t => if f x y = 0 then cmpL f r t else f x y
def orI (a b : Int) : Int := if a = 0 then b else a
def cmpU (a b : Nat) : Int := cmpI a b
def cmpB (a b : UInt8) : Int := cmpI a.toNat b.toNat
def compareD (a b : Dat) : Int :=
  orI (cmpI a.ty b.ty) (orI (cmpL compareN a.names b.names) (orI (cmpL cmpU a.nums b.nums) (orI (cmpL orderM a.texts b.texts) (cmpL cmpB a.raw b.raw))))

section
variable {α : Type} {f : α → α → Int}
theorem cmpL_step {a b : List α} (k : Nat) (h1 : k < a.length) (h2 : k < b.length) :
    cmpL f (a.drop k) (b.drop k) = if f a[k] b[k] = 0 then cmpL f (a.drop (k + 1)) (b.drop (k + 1)) else f a[k] b[k] := by
  rw [List.drop_eq_getElem_cons h1, List.drop_eq_getElem_cons h2]
  rfl
theorem cmpL_nil (b : List α) : cmpL f [] b = cmpI 0 b.length := by
  cases b with
  | nil => rfl
  | cons x r => simp [cmpL, cmpI]
theorem cmpL_nil' (a : List α) : cmpL f a [] = cmpI a.length 0 := by
  cases a with
  | nil => rfl
  | cons x r => simp [cmpL, cmpI]; omega
theorem cmpI_sub (a b k : Int) : cmpI (a - k) (b - k) = cmpI a b := by
  unfold cmpI
  by_cases h : a < b
  · rw [if_pos h, if_pos (by omega)]
  · rw [if_neg h, if_neg (by omega)]
    by_cases h2 : b < a
    · rw [if_pos h2, if_pos (by omega)]
    · rw [if_neg h2, if_neg (by omega)]
theorem cmpL_end {a b : List α} (k : Nat) (h1 : k ≤ a.length) (h2 : k ≤ b.length) (h : k = a.length ∨ k = b.length) : cmpL f (a.drop k) (b.drop k) = cmpI a.length b.length := by
  rcases h with h | h
  · rw [List.drop_of_length_le (by omega), cmpL_nil, List.length_drop, ← cmpI_sub a.length b.length k]
    congr 1 <;> omega
  · rw [List.drop_of_length_le (l := b) (by omega), cmpL_nil', List.length_drop, ← cmpI_sub a.length b.length k]
    congr 1 <;> omega
theorem cmpL_swap (hf : ∀ x y, f y x = - f x y) : ∀ a b : List α, cmpL f b a = - cmpL f a b
  | [], [] => rfl
  | [], _ :: _ => rfl
  | _ :: _, [] => rfl
  | x :: r, y :: t => by
    simp only [cmpL, hf x y, cmpL_swap hf r t]
    by_cases h : f x y = 0
    · rw [if_pos h, if_pos (by omega)]
    · rw [if_neg h, if_neg (by omega)]
theorem cmpL_range (hf : ∀ x y, f x y = -1 ∨ f x y = 0 ∨ f x y = 1) : ∀ a b : List α, cmpL f a b = -1 ∨ cmpL f a b = 0 ∨ cmpL f a b = 1
  | [], [] => .inr (.inl rfl)
  | [], _ :: _ => .inl rfl
  | _ :: _, [] => .inr (.inr rfl)
  | x :: r, y :: t => by
    simp only [cmpL]
    split
    · exact cmpL_range hf r t
    · exact hf x y
end
theorem cmpI_swap (a b : Int) : cmpI b a = - cmpI a b := by
  rcases cmpI_cases a b with ⟨h, h2⟩ | ⟨h, h2⟩ | ⟨h, h2⟩ <;> rcases cmpI_cases b a with ⟨g, g2⟩ | ⟨g, g2⟩ | ⟨g, g2⟩ <;> omega
theorem cmpI_range (a b : Int) : cmpI a b = -1 ∨ cmpI a b = 0 ∨ cmpI a b = 1 := by
  rcases cmpI_cases a b with ⟨h, h2⟩ | ⟨h, h2⟩ | ⟨h, h2⟩ <;> omega
theorem orI_swap {a b a' b' : Int} (h : a' = -a) (h2 : b' = -b) : orI a' b' = - orI a b := by
  unfold orI; subst h h2
  by_cases h : a = 0
  · rw [if_pos h, if_pos (by omega)]
  · rw [if_neg h, if_neg (by omega)]
theorem orI_range {a b : Int} (h : a = -1 ∨ a = 0 ∨ a = 1) (h2 : b = -1 ∨ b = 0 ∨ b = 1) : orI a b = -1 ∨ orI a b = 0 ∨ orI a b = 1 := by
  unfold orI; split <;> assumption

theorem orderM_cmpL : ∀ a b : List UInt8, orderM a b = cmpL cmpB a b
  | [], [] => by simp [orderM, cmpL, Op.bytesLess]
  | [], _ :: _ => by simp [orderM, cmpL, Op.bytesLess]
  | _ :: _, [] => by simp [orderM, cmpL, Op.bytesLess]
  | x :: r, y :: t => by
    have ih := orderM_cmpL r t
    simp only [cmpL]
    rcases cmpI_cases x.toNat y.toNat with ⟨h, h2⟩ | ⟨h, h2⟩ | ⟨h, h2⟩
    · have hc : cmpB x y = -1 := h
      rw [hc]
      have : x < y := by rw [UInt8.lt_iff_toNat_lt]; omega
      simp [orderM, Op.bytesLess, this]
    · have hc : cmpB x y = 0 := h
      have e : x = y := UInt8.toNat_inj.1 (by omega)
      subst e
      rw [hc, ← ih]
      have : ¬ x < x := by rw [UInt8.lt_iff_toNat_lt]; omega
      simp [orderM, Op.bytesLess, this]
    · have hc : cmpB x y = 1 := h
      rw [hc]
      have n1 : ¬ x < y := by rw [UInt8.lt_iff_toNat_lt]; omega
      have n2 : ¬ x = y := by rintro rfl; omega
      simp [orderM, Op.bytesLess, n1, n2]
theorem cmpB_swap (a b : UInt8) : cmpB b a = - cmpB a b := cmpI_swap _ _
theorem cmpB_range (a b : UInt8) : cmpB a b = -1 ∨ cmpB a b = 0 ∨ cmpB a b = 1 := cmpI_range _ _
theorem cmpU_swap (a b : Nat) : cmpU b a = - cmpU a b := cmpI_swap _ _
theorem cmpU_range (a b : Nat) : cmpU a b = -1 ∨ cmpU a b = 0 ∨ cmpU a b = 1 := cmpI_range _ _
theorem orderM_swap (a b : List UInt8) : orderM b a = - orderM a b := by rw [orderM_cmpL, orderM_cmpL]; exact cmpL_swap cmpB_swap a b
theorem orderM_range (a b : List UInt8) : orderM a b = -1 ∨ orderM a b = 0 ∨ orderM a b = 1 := by rw [orderM_cmpL]; exact cmpL_range cmpB_range a b
theorem compareD_swap (a b : Dat) : compareD b a = - compareD a b :=
  orI_swap (cmpI_swap _ _) (orI_swap (cmpL_swap compareN_swap _ _) (orI_swap (cmpL_swap cmpU_swap _ _) (orI_swap (cmpL_swap orderM_swap _ _) (cmpL_swap cmpB_swap _ _))))
theorem compareD_range (a b : Dat) : compareD a b = -1 ∨ compareD a b = 0 ∨ compareD a b = 1 :=
  orI_range (cmpI_range _ _) (orI_range (cmpL_range compareN_range _ _) (orI_range (cmpL_range cmpU_range _ _) (orI_range (cmpL_range orderM_range _ _) (cmpL_range cmpB_range _ _))))

end Go.Proofs.Yteppgeiejknhoaa

/-
  Names as lists of labels: plain facts for the statements of layer 2: words and back, relative words, another end, one ahead, where two meet.
-/
namespace Go.Proofs.Yteppgeiejknhoaa
set_option maxRecDepth 20000
open Go.RowKit Go.Shelf

theorem octetW_first (c : UInt8) (r : List UInt8) : octetW c ++ r ≠ [64] ∧ octetW c ++ r ≠ [46] ∧ octetW c ++ r ≠ [] := by
  by_cases hsp : specialU c = true
  · rw [octetW_special hsp]; simp
  have hsp0 : specialU c = false := by simpa using hsp
  by_cases h2 : (c.toNat : Int) < 33 ∨ 126 < (c.toNat : Int)
  · rw [octetW_esc hsp0 h2]; simp [octetEsc]
  · rw [octetW_plain hsp0 (by omega) (by omega)]
    have h46 : c ≠ 46 := by intro e; subst e; revert hsp0; decide
    have h64 : c ≠ 64 := by intro e; subst e; revert hsp0; decide
    refine ⟨?_, ?_, by simp⟩
    · intro e; simp at e; exact h64 e.1
    · intro e; simp at e; exact h46 e.1
theorem textL_first {x : List UInt8} (h : x ≠ []) (r : List UInt8) : textL x ++ r ≠ [64] ∧ textL x ++ r ≠ [46] ∧ textL x ++ r ≠ [] := by
  cases x with
  | nil => exact absurd rfl h
  | cons c x => rw [textL_cons, List.append_assoc]; exact octetW_first c _
theorem joinL_first {n : Nm} (hn : n ≠ []) (hx : ∀ x ∈ n, x ≠ []) : joinL n ≠ [64] ∧ joinL n ≠ [46] ∧ joinL n ≠ [] := by
  cases n with
  | nil => exact absurd rfl hn
  | cons x r => exact textL_first (hx x (by simp)) _
theorem label_ne {n : Nm} (h : checkL n = 0) : ∀ x ∈ n, x ≠ [] := fun x hx => (checkLabelM_ok (checkL_mem h x hx)).1
theorem joinL_snoc_ne {n : Nm} (hn : n ≠ []) (hx : ∀ x ∈ n, x ≠ []) (y : List UInt8) : joinL (n ++ [y]) ≠ [64] ∧ joinL (n ++ [y]) ≠ [46] ∧ joinL (n ++ [y]) ≠ [] := by
  cases n with
  | nil => exact absurd rfl hn
  | cons x r => exact textL_first (hx x (by simp)) _

/-- A name's words are that name again. -/
theorem parse_textN {n : Nm} (h : checkN n = 0) (o : Nm) : parseN (textN n) o = (n, 0) := by
  have hL := checkN_L h
  by_cases hn : n = []
  · subst hn; rfl
  have ht : textN n = joinL (n ++ [[]]) := by unfold textN; rw [if_neg hn, joinL_flat n hn]
  obtain ⟨h1, h2, h3⟩ := joinL_snoc_ne hn (label_ne hL) []
  rw [ht]
  unfold parseN
  rw [if_neg h1, if_neg h2, if_neg h3, split_join (by simp)]
  simp only [if_true, List.map_append, List.map_cons, List.map_nil]
  have hw : wholeN (n.map textL ++ [textL []]) = true := by unfold wholeN; simp [textL]
  have hp : partsN (n.map textL ++ [textL []]) = n.map textL := by unfold partsN; rw [hw]; simp
  unfold endN
  rw [hw, hp, readN_text hL]
  simp [h]
theorem textN_dot {n : Nm} (hn : n ≠ []) : textN n = joinL n ++ [46] := by
  have ht : textN n = joinL (n ++ [[]]) := by unfold textN; rw [if_neg hn, joinL_flat n hn]
  rw [ht, joinL_snoc hn]
  simp [textL]
/-- Without the dot at the end: put ahead of the origin. -/
theorem parse_joinN {n : Nm} (hn : n ≠ []) (h : checkN n = 0) (o : Nm) : parseN (joinL n) o = (if checkN (n ++ o) = 0 then n ++ o else [], checkN (n ++ o)) := by
  have hL := checkN_L h
  obtain ⟨h1, h2, h3⟩ := joinL_first hn (label_ne hL)
  unfold parseN
  rw [if_neg h1, if_neg h2, if_neg h3, split_join hn]
  have hw : wholeN (n.map textL) = false := by
    unfold wholeN
    apply decide_eq_false
    intro e
    obtain ⟨r, x, rfl⟩ : ∃ r x, n = r ++ [x] := ⟨n.dropLast, n.getLast hn, (List.dropLast_concat_getLast hn).symm⟩
    simp at e
    exact label_ne hL x (by simp) (textL_nil_iff e)
  have hp : partsN (n.map textL) = n.map textL := by unfold partsN; rw [hw]; simp
  simp only [if_true]
  unfold endN
  rw [hw, hp, readN_text hL]
  simp only [if_true, Bool.false_eq_true, if_false]
  by_cases hc : checkN (n ++ o) = 0
  · rw [if_pos hc, if_pos hc, hc]
  · rw [if_neg hc, if_neg hc]
theorem checkN_app {n o : Nm} (h : checkL n = 0) (h2 : checkL o = 0) (h3 : checkN (n ++ o) ≠ 0) : checkN (n ++ o) = 3 := by
  unfold checkN at h3 ⊢
  rw [checkL_append, if_pos h, if_pos h2] at h3 ⊢
  by_cases e : 255 < lenN (n ++ o)
  · rw [if_pos e]
  · rw [if_neg e] at h3; exact absurd rfl h3

/-! ### another end -/
theorem checkL_len : ∀ (a b : Nm), a.map List.length = b.map List.length → checkL a = checkL b
  | [], [] => fun _ => rfl
  | [], _ :: _ => by intro h; simp at h
  | _ :: _, [] => by intro h; simp at h
  | x :: r, y :: t => by
    intro h
    simp only [List.map_cons, List.cons.injEq] at h
    have hc : checkLabelM x = checkLabelM y := by
      unfold checkLabelM
      by_cases hx : x = []
      · have : y = [] := List.eq_nil_of_length_eq_zero (by rw [← h.1, hx]; rfl)
        rw [if_pos hx, if_pos this]
      · have : y ≠ [] := by intro e; apply hx; exact List.eq_nil_of_length_eq_zero (by rw [h.1, e]; rfl)
        rw [if_neg hx, if_neg this, h.1]
    simp only [checkL, hc, checkL_len r t h.2]
theorem lenN_len (a b : Nm) (h : a.map List.length = b.map List.length) : lenN a = lenN b := by
  unfold lenN
  have : ∀ c : Nm, (c.map fun x => 1 + x.length) = (c.map List.length).map fun k => 1 + k := fun c => by simp
  rw [this a, this b, h]
theorem checkN_len {a b : Nm} (h : a.map List.length = b.map List.length) : checkN a = checkN b := by
  unfold checkN; rw [checkL_len a b h, lenN_len a b h]
theorem foldL_len (l : List UInt8) : (foldL l).length = l.length := by simp [foldL]
theorem foldN_lens {a b : Nm} (h : foldN a = foldN b) : a.map List.length = b.map List.length := by
  have : ∀ c : Nm, c.map List.length = (foldN c).map List.length := fun c => by
    unfold foldN; rw [List.map_map]; apply List.map_congr_left; intro l _; exact (foldL_len l).symm
  rw [this a, this b, h]
theorem foldN_append (a b : Nm) : foldN (a ++ b) = foldN a ++ foldN b := by simp [foldN]
/-- What stands ahead of f in n, f at its end, is n but for how it is written. -/
theorem under_parts {n f : Nm} (h : underN n f = true) : foldN (n.take (n.length - f.length) ++ f) = foldN n := by
  have hl := underN_len h
  unfold underN at h
  simp only [Bool.and_eq_true, decide_eq_true_eq, sameN_iff] at h
  rw [foldN_append, ← h.2, ← foldN_append, List.take_append_drop]
theorem swap_back {n f t : Nm} (h : (swapN n f t).2 = 0) (hc : checkN n = 0) :
    underN (swapN n f t).1 t = true ∧ (swapN (swapN n f t).1 t f).2 = 0 ∧ sameN (swapN (swapN n f t).1 t f).1 n = true := by
  unfold swapN at h
  by_cases hu : underN n f = true
  · rw [if_pos hu] at h
    by_cases hk : checkN (n.take (n.length - f.length) ++ t) = 0
    · have hs : swapN n f t = (n.take (n.length - f.length) ++ t, 0) := by unfold swapN; rw [if_pos hu, if_pos hk]
      rw [hs]
      have hut : underN (n.take (n.length - f.length) ++ t) t = true := (underN_iff _ _).2 ⟨foldN (n.take (n.length - f.length)), foldN_append _ _⟩
      have hp := under_parts hu
      have htk : (n.take (n.length - f.length) ++ t).take ((n.take (n.length - f.length) ++ t).length - t.length) = n.take (n.length - f.length) := by
        rw [List.length_append, Nat.add_sub_cancel]; exact List.take_left
      have hck : checkN (n.take (n.length - f.length) ++ f) = 0 := by rw [checkN_len (foldN_lens hp)]; exact hc
      have hb : swapN (n.take (n.length - f.length) ++ t) t f = (n.take (n.length - f.length) ++ f, 0) := by
        unfold swapN; rw [if_pos hut, htk, if_pos hck]
      simp only [hb]
      exact ⟨hut, trivial, (sameN_iff _ _).2 hp⟩
    · rw [if_neg hk] at h; simp at h
  · rw [if_neg hu] at h; simp at h

/-! ### one ahead -/
theorem under_child (l : List UInt8) (n : Nm) : underN (l :: n) n = true := (underN_iff _ _).2 ⟨[foldL l], rfl⟩
theorem not_under_child (l : List UInt8) (n : Nm) : underN n (l :: n) = false := by
  cases h : underN n (l :: n) with
  | false => rfl
  | true => have := underN_len h; simp at this; omega
theorem cmpR_more : ∀ (p : Nm) (l : List UInt8), cmpR p (p ++ [l]) = -1
  | [], _ => rfl
  | x :: r, l => by
    simp only [List.cons_append, cmpR]
    rw [if_pos ((compareM_zero x x).2 rfl)]; exact cmpR_more r l
theorem compare_child (l : List UInt8) (n : Nm) : compareN n (l :: n) = -1 := by
  unfold compareN; rw [List.reverse_cons]; exact cmpR_more _ _

/-! ### where two names meet -/
theorem sharedR_le : ∀ p q : Nm, sharedR p q ≤ p.length ∧ sharedR p q ≤ q.length
  | [], _ => by simp [sharedR]
  | _ :: _, [] => by simp [sharedR]
  | x :: r, y :: t => by
    have := sharedR_le r t
    simp only [sharedR]; split <;> simp <;> omega
theorem sharedR_fold : ∀ p q : Nm, foldN (p.take (sharedR p q)) = foldN (q.take (sharedR p q))
  | [], _ => by simp [sharedR]
  | _ :: _, [] => by simp [sharedR]
  | x :: r, y :: t => by
    have ih := sharedR_fold r t
    simp only [sharedR]
    by_cases e : compareM x y = 0
    · rw [if_pos e]; simp only [List.take_succ_cons, foldN, List.map_cons] at ih ⊢
      rw [(compareM_zero x y).1 e, ih]
    · rw [if_neg e]; simp
theorem sharedR_max : ∀ (p q : Nm) (k : Nat), k ≤ p.length → k ≤ q.length → foldN (p.take k) = foldN (q.take k) → k ≤ sharedR p q
  | _, _, 0 => by intros; omega
  | [], _, _ + 1 => by intro h; simp at h
  | _ :: _, [], _ + 1 => by intro _ h; simp at h
  | x :: r, y :: t, k + 1 => by
    intro h1 h2 h3
    simp only [List.take_succ_cons, foldN, List.map_cons, List.cons.injEq] at h3
    have ih := sharedR_max r t k (by simpa using h1) (by simpa using h2) h3.2
    simp only [sharedR]
    rw [if_pos ((compareM_zero x y).2 h3.1)]; omega
theorem take_reverse_drop (p : Nm) (k : Nat) : p.reverse.take k = (p.drop (p.length - k)).reverse := by
  rw [List.take_reverse]
theorem foldN_rev_inj {a b : Nm} (h : foldN a.reverse = foldN b.reverse) : foldN a = foldN b := by
  rw [foldN_reverse, foldN_reverse] at h; exact List.reverse_inj.1 h
theorem common_len (a b : Nm) : (commonN a b).length = sharedR a.reverse b.reverse := by
  have := sharedR_le a.reverse b.reverse
  unfold commonN; rw [List.length_drop]; simp at this; omega
theorem common_under_a (a b : Nm) : underN a (commonN a b) = true := by
  have := sharedR_le a.reverse b.reverse
  rw [underN_iff]; unfold commonN
  refine ⟨foldN (a.take (a.length - sharedR a.reverse b.reverse)), ?_⟩
  rw [← foldN_append, List.take_append_drop]
theorem common_under_b (a b : Nm) : underN b (commonN a b) = true := by
  have hl := sharedR_le a.reverse b.reverse
  simp only [List.length_reverse] at hl
  have h := sharedR_fold a.reverse b.reverse
  rw [take_reverse_drop, take_reverse_drop] at h
  have h2 := foldN_rev_inj h
  rw [underN_iff]; unfold commonN
  refine ⟨foldN (b.take (b.length - sharedR a.reverse b.reverse)), ?_⟩
  rw [h2, ← foldN_append, List.take_append_drop]
/-- What is below both is not deeper: by one label more of a. -/
theorem common_deepest (a b : Nm) (k : Nat) (hk : k ≤ a.length) (h : underN b (a.drop (a.length - k)) = true) : k ≤ (commonN a b).length := by
  rw [common_len]
  have hl := underN_len h
  rw [List.length_drop] at hl
  have hkb : k ≤ b.length := by omega
  unfold underN at h
  simp only [Bool.and_eq_true, decide_eq_true_eq, sameN_iff] at h
  have e : (a.drop (a.length - k)).length = k := by rw [List.length_drop]; omega
  rw [e] at h
  refine sharedR_max _ _ _ (by simpa using hk) (by simpa using hkb) ?_
  rw [take_reverse_drop, take_reverse_drop, foldN_reverse, foldN_reverse, h.2]

end Go.Proofs.Yteppgeiejknhoaa

