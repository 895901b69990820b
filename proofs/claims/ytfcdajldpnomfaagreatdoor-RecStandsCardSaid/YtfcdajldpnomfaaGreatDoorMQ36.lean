/-
  Data (chapter 4): as plain data; how a value reads as them.
-/
import Derived.Test.YtfcdajldpnomfaaGreatDoorMQ29
import Derived.Test.YtfcdajldpnomfaaGreatDoorMQ34
import Derived.Test.YtfcdajldpnomfaaGreatDoorMQ43
import Derived.Test.YtfcdajldpnomfaaGreatDoorMQ27
import Derived.Lib.ConvBytes
import Derived.Lib.IndexBytes
namespace Go.Proofs.YtfcdajldpnomfaaGreatDoor
set_option maxRecDepth 20000
open Go.RowKit Go.Shelf

/-- The slice value v reads as these cells. -/
def SlAt (W : World) (v : Value) (xs : List Value) : Prop :=
  ∃ a c, v = .slice a xs.length c ∧ xs.length ≤ c ∧ (a = none → c = 0) ∧ (xs = [] ∨ ∃ b off, a = some ⟨b, off, none⟩ ∧ b < W.heap.size ∧ ∀ j (hj : j < xs.length), W.cell? ⟨b, off + j, none⟩ = some xs[j])
theorem SlAt.below {W W' : World} {v : Value} {xs : List Value} (h : SlAt W v xs) (hb : Below W.heap.size W W') : SlAt W' v xs := by
  obtain ⟨a, c, e, h1, h2, h⟩ := h
  refine ⟨a, c, e, h1, h2, ?_⟩
  rcases h with h | ⟨b, off, ea, hlt, hc⟩
  · exact .inl h
  · exact .inr ⟨b, off, ea, Nat.lt_of_lt_of_le hlt hb.size, fun j hj => (hb.cell (p := ⟨b, off + j, none⟩) hlt).trans (hc j hj)⟩
theorem SlAt.nil (W : World) : SlAt W (.slice none 0 0) [] := ⟨none, 0, rfl, Nat.le_refl _, fun _ => rfl, .inl rfl⟩
theorem SlAt.ok {W : World} {v : Value} {xs : List Value} (h : SlAt W v xs) : SlOK v := by
  obtain ⟨a, c, rfl, h1, h2, _⟩ := h
  exact ⟨_, _, _, rfl, h1, h2⟩
theorem SlAt.of_own {α : Type} {T : TypeId} {enc : α → Value} {W : World} {base : Nat} {v : Value} {xs : List α} (h : OwnG T enc W base v xs) : SlAt W v (xs.map enc) := by
  have h0 := h
  rcases h.2 with ⟨rfl, h1⟩ | ⟨g, cap, cur, rfl, hb, hg, hc, hm, hsz, htk⟩
  · obtain rfl := List.eq_nil_of_length_eq_zero h1
    exact SlAt.nil W
  · refine ⟨_, _, by rw [List.length_map], by rw [List.length_map]; exact hc, (fun e => by cases e), ?_⟩
    by_cases hne : xs = []
    · subst hne; exact .inl rfl
    · obtain ⟨g', eg, _, hlt, hcl⟩ := h0.cells hne
      cases eg
      refine .inr ⟨g, 0, rfl, hlt, fun j hj => ?_⟩
      rw [Nat.zero_add, hcl j (by simpa using hj), List.getElem_map]
/-- A row that came in. -/
theorem slAt_row {W : World} {x : Addr} {l c : Nat} {V : Nat → Value} {vs : List Value} (hv : vs.length = l) (hl : l ≤ c) (hvs : ∀ j (hj : j < vs.length), vs[j] = V j)
    (hcell : ∀ i, i < c → W.cell? (x.add i) = some (V i)) : SlAt W (.slice (some x) l c) vs := by
  refine ⟨some x, c, by rw [hv], by omega, (fun e => by cases e), ?_⟩
  by_cases h0 : l = 0
  · subst h0; exact .inl (List.eq_nil_of_length_eq_zero hv)
  · right
    obtain ⟨b, off, spot⟩ := x
    have hspot : spot = none := by simpa [Addr.add] using World.cell?_spot (hcell 0 (by omega))
    subst hspot
    have hb : b < W.heap.size := by
      have h := hcell 0 (by omega)
      simp only [Addr.add, if_true] at h
      unfold World.cell? at h
      rcases Nat.lt_or_ge b W.heap.size with h' | h'
      · exact h'
      · rw [Array.getElem?_eq_none h'] at h; simp at h
    refine ⟨b, off, rfl, hb, fun j hj => ?_⟩
    rw [← Go.WideShapes.add_plain, hcell j (by omega), hvs j hj]

theorem nmAt_sl {W : World} {v : Value} {xs : Nm} : NmAt W v xs ↔ SlAt W v (xs.map strV) := by
  constructor
  · rintro ⟨⟨a, c, rfl, h⟩, ⟨a', n', c', e, h1, h2⟩⟩
    cases e
    refine ⟨a, c, by rw [List.length_map], by rw [List.length_map]; exact h1, h2, ?_⟩
    rcases h with rfl | ⟨b, off, ea, hlt, hc⟩
    · exact .inl rfl
    · exact .inr ⟨b, off, ea, hlt, fun j hj => by rw [List.getElem_map]; exact hc j (by simpa using hj)⟩
  · rintro ⟨a, c, e, h1, h2, h⟩
    rw [List.length_map] at e h1
    subst e
    refine ⟨⟨a, c, rfl, ?_⟩, ⟨_, _, _, rfl, h1, h2⟩⟩
    rcases h with h | ⟨b, off, ea, hlt, hc⟩
    · exact .inl (by simpa using h)
    · refine .inr ⟨b, off, ea, hlt, fun j hj => ?_⟩
      rw [hc j (by simpa using hj), List.getElem_map]

/-- A slice of names. -/
def NmsAt (W : World) (v : Value) (ns : List Nm) : Prop := ∃ vs : List Value, SlAt W v vs ∧ ∃ h : vs.length = ns.length, ∀ j (hj : j < vs.length), NmAt W vs[j] (ns[j]'(by omega))
theorem NmsAt.below {W W' : World} {v : Value} {ns : List Nm} (h : NmsAt W v ns) (hb : Below W.heap.size W W') : NmsAt W' v ns := by
  obtain ⟨vs, h1, h2, h3⟩ := h
  exact ⟨vs, h1.below hb, h2, fun j hj => (h3 j hj).below hb⟩
theorem NmsAt.nil (W : World) : NmsAt W (.slice none 0 0) [] := ⟨[], SlAt.nil W, rfl, fun _ hj => absurd hj (Nat.not_lt_zero _)⟩

def u32V (n : Nat) : Value := .int .u32 (n : Int)

/-- Data. -/
structure Dat where
  ty : Int
  names : List Nm
  nums : List Nat
  texts : Nm
  raw : List UInt8

def DatAt (W : World) (v : Value) (d : Dat) : Prop :=
  ∃ vn vu vt vr, v = .agg #[.int .i64 d.ty, vn, vu, vt, vr] ∧ NmsAt W vn d.names ∧ SlAt W vu (d.nums.map u32V) ∧ NmAt W vt d.texts ∧ SlAt W vr (d.raw.map bv)
theorem DatAt.below {W W' : World} {v : Value} {d : Dat} (h : DatAt W v d) (hb : Below W.heap.size W W') : DatAt W' v d := by
  obtain ⟨vn, vu, vt, vr, e, h1, h2, h3, h4⟩ := h
  exact ⟨vn, vu, vt, vr, e, h1.below hb, h2.below hb, h3.below hb, h4.below hb⟩
def Dat.none : Dat := ⟨0, [], [], [], []⟩

/-- Bounds on data that the functions are asked for. -/
def DatOK (d : Dat) : Prop := (-(2 ^ 63) ≤ d.ty ∧ d.ty < 2 ^ 63) ∧ d.names.length ≤ 1048576 ∧ (∀ n ∈ d.names, NmOK n) ∧ d.nums.length ≤ 1048576 ∧ (∀ n ∈ d.nums, n < 2 ^ 32) ∧ NmOK d.texts ∧ d.raw.length ≤ 1048576

end Go.Proofs.YtfcdajldpnomfaaGreatDoor

/-
  Data in their order: plain functions and facts.
-/
namespace Go.Proofs.YtfcdajldpnomfaaGreatDoor
set_option maxRecDepth 20000
open Go.RowKit Go.Shelf

/-- Lists by their items, one by one; who has fewer, ahead. -/
def cmpL {α : Type} (f : α → α → Int) : List α → List α → Int
  | [], [] => 0
  | [], _ :: _ => -1
  | _ :: _, [] => 1
  | x :: r, y :: t => if f x y = 0 then cmpL f r t else f x y
def orI (a b : Int) : Int := if a = 0 then b else a
def cmpU (a b : Nat) : Int := cmpI a b
def cmpB (a b : UInt8) : Int := cmpI a.toNat b.toNat
def compareD (a b : Dat) : Int :=
  orI (cmpI a.ty b.ty) (orI (cmpL compareN a.names b.names) (orI (cmpL cmpU a.nums b.nums) (orI (cmpL orderM a.texts b.texts) (cmpL cmpB a.raw b.raw))))

section
variable {α : Type} {f : α → α → Int}
theorem cmpL_step {a b : List α} (k : Nat) (h1 : k < a.length) (h2 : k < b.length) :
    cmpL f (a.drop k) (b.drop k) = if f a[k] b[k] = 0 then cmpL f (a.drop (k + 1)) (b.drop (k + 1)) else f a[k] b[k] := by
  rw [List.drop_eq_getElem_cons h1, List.drop_eq_getElem_cons h2]
  rfl
theorem cmpL_nil (b : List α) : cmpL f [] b = cmpI 0 b.length := by
  cases b with
  | nil => rfl
  | cons x r => simp [cmpL, cmpI]
theorem cmpL_nil' (a : List α) : cmpL f a [] = cmpI a.length 0 := by
  cases a with
  | nil => rfl
  | cons x r => simp [cmpL, cmpI]; omega
theorem cmpI_sub (a b k : Int) : cmpI (a - k) (b - k) = cmpI a b := by
  unfold cmpI
  by_cases h : a < b
  · rw [if_pos h, if_pos (by omega)]
  · rw [if_neg h, if_neg (by omega)]
    by_cases h2 : b < a
    · rw [if_pos h2, if_pos (by omega)]
    · rw [if_neg h2, if_neg (by omega)]
theorem cmpL_end {a b : List α} (k : Nat) (h1 : k ≤ a.length) (h2 : k ≤ b.length) (h : k = a.length ∨ k = b.length) : cmpL f (a.drop k) (b.drop k) = cmpI a.length b.length := by
  rcases h with h | h
  · rw [List.drop_of_length_le (by omega), cmpL_nil, List.length_drop, ← cmpI_sub a.length b.length k]
    congr 1 <;> omega
  · rw [List.drop_of_length_le (l := b) (by omega), cmpL_nil', List.length_drop, ← cmpI_sub a.length b.length k]
    congr 1 <;> omega
theorem cmpL_swap (hf : ∀ x y, f y x = - f x y) : ∀ a b : List α, cmpL f b a = - cmpL f a b
  | [], [] => rfl
  | [], _ :: _ => rfl
  | _ :: _, [] => rfl
  | x :: r, y :: t => by
    simp only [cmpL, hf x y, cmpL_swap hf r t]
    by_cases h : f x y = 0
    · rw [if_pos h, if_pos (by omega)]
    · rw [if_neg h, if_neg (by omega)]
theorem cmpL_range (hf : ∀ x y, f x y = -1 ∨ f x y = 0 ∨ f x y = 1) : ∀ a b : List α, cmpL f a b = -1 ∨ cmpL f a b = 0 ∨ cmpL f a b = 1
  | [], [] => .inr (.inl rfl)
  | [], _ :: _ => .inl rfl
  | _ :: _, [] => .inr (.inr rfl)
  | x :: r, y :: t => by
    simp only [cmpL]
    split
    · exact cmpL_range hf r t
    · exact hf x y
end
theorem cmpI_swap (a b : Int) : cmpI b a = - cmpI a b := by
  rcases cmpI_cases a b with ⟨h, h2⟩ | ⟨h, h2⟩ | ⟨h, h2⟩ <;> rcases cmpI_cases b a with ⟨g, g2⟩ | ⟨g, g2⟩ | ⟨g, g2⟩ <;> omega
theorem cmpI_range (a b : Int) : cmpI a b = -1 ∨ cmpI a b = 0 ∨ cmpI a b = 1 := by
  rcases cmpI_cases a b with ⟨h, h2⟩ | ⟨h, h2⟩ | ⟨h, h2⟩ <;> omega
theorem orI_swap {a b a' b' : Int} (h : a' = -a) (h2 : b' = -b) : orI a' b' = - orI a b := by
  unfold orI; subst h h2
  by_cases h : a = 0
  · rw [if_pos h, if_pos (by omega)]
  · rw [if_neg h, if_neg (by omega)]
theorem orI_range {a b : Int} (h : a = -1 ∨ a = 0 ∨ a = 1) (h2 : b = -1 ∨ b = 0 ∨ b = 1) : orI a b = -1 ∨ orI a b = 0 ∨ orI a b = 1 := by
  unfold orI; split <;> assumption

theorem orderM_cmpL : ∀ a b : List UInt8, orderM a b = cmpL cmpB a b
  | [], [] => by simp [orderM, cmpL, Op.bytesLess]
  | [], _ :: _ => by simp [orderM, cmpL, Op.bytesLess]
  | _ :: _, [] => by simp [orderM, cmpL, Op.bytesLess]
  | x :: r, y :: t => by
    have ih := orderM_cmpL r t
    simp only [cmpL]
    rcases cmpI_cases x.toNat y.toNat with ⟨h, h2⟩ | ⟨h, h2⟩ | ⟨h, h2⟩
    · have hc : cmpB x y = -1 := h
      rw [hc]
      have : x < y := by rw [UInt8.lt_iff_toNat_lt]; omega
      simp [orderM, Op.bytesLess, this]
    · have hc : cmpB x y = 0 := h
      have e : x = y := UInt8.toNat_inj.1 (by omega)
      subst e
      rw [hc, ← ih]
      have : ¬ x < x := by rw [UInt8.lt_iff_toNat_lt]; omega
      simp [orderM, Op.bytesLess, this]
    · have hc : cmpB x y = 1 := h
      rw [hc]
      have n1 : ¬ x < y := by rw [UInt8.lt_iff_toNat_lt]; omega
      have n2 : ¬ x = y := by rintro rfl; omega
      simp [orderM, Op.bytesLess, n1, n2]
theorem cmpB_swap (a b : UInt8) : cmpB b a = - cmpB a b := cmpI_swap _ _
theorem cmpB_range (a b : UInt8) : cmpB a b = -1 ∨ cmpB a b = 0 ∨ cmpB a b = 1 := cmpI_range _ _
theorem cmpU_swap (a b : Nat) : cmpU b a = - cmpU a b := cmpI_swap _ _
theorem cmpU_range (a b : Nat) : cmpU a b = -1 ∨ cmpU a b = 0 ∨ cmpU a b = 1 := cmpI_range _ _
theorem orderM_swap (a b : List UInt8) : orderM b a = - orderM a b := by rw [orderM_cmpL, orderM_cmpL]; exact cmpL_swap cmpB_swap a b
theorem orderM_range (a b : List UInt8) : orderM a b = -1 ∨ orderM a b = 0 ∨ orderM a b = 1 := by rw [orderM_cmpL]; exact cmpL_range cmpB_range a b
theorem compareD_swap (a b : Dat) : compareD b a = - compareD a b :=
  orI_swap (cmpI_swap _ _) (orI_swap (cmpL_swap compareN_swap _ _) (orI_swap (cmpL_swap cmpU_swap _ _) (orI_swap (cmpL_swap orderM_swap _ _) (cmpL_swap cmpB_swap _ _))))
theorem compareD_range (a b : Dat) : compareD a b = -1 ∨ compareD a b = 0 ∨ compareD a b = 1 :=
  orI_range (cmpI_range _ _) (orI_range (cmpL_range compareN_range _ _) (orI_range (cmpL_range cmpU_range _ _) (orI_range (cmpL_range orderM_range _ _) (cmpL_range cmpB_range _ _))))

end Go.Proofs.YtfcdajldpnomfaaGreatDoor

/-
  Contract of name.Parse.
-/
namespace Go.Proofs.YtfcdajldpnomfaaGreatDoor
set_option maxRecDepth 20000
open Go.RowKit Go.Shelf

theorem splitM_ne {s : List UInt8} (h : (splitM s).2 = 0) : (splitM s).1 ≠ [] := by
  unfold splitM at h ⊢
  by_cases e : (spRun s).taken = true
  · rw [if_pos e] at h; cases h
  · rw [if_neg e]; simp
theorem splitM_len (s : List UInt8) : (splitM s).1.length ≤ s.length + 1 ∧ ∀ x ∈ (splitM s).1, x.length ≤ s.length := by
  unfold splitM
  by_cases e : (spRun s).taken = true
  · rw [if_pos e]; simp
  · rw [if_neg e]
    have h := (spRun_inv s).2.2
    refine ⟨by simp; omega, ?_⟩
    intro x hx
    simp only [List.mem_append, List.mem_map, List.mem_singleton] at hx
    rcases hx with ⟨p, _, rfl⟩ | rfl
    · unfold piece; simp; omega
    · simp
theorem parseM_len (l : List UInt8) : (parseM l).1.length ≤ l.length := by
  have h : (scan l).1.length ≤ l.length := scanM_len _ l (Nat.le_refl _)
  unfold parseM
  split
  · split
    · exact h
    · simp
  · simp
theorem readN_len {B : Nat} : ∀ (ps : Nm), (∀ p ∈ ps, p.length ≤ B) → (readN ps).1.length ≤ ps.length ∧ ∀ x ∈ (readN ps).1, x.length ≤ B
  | [] => by intro _; simp [readN]
  | p :: r => by
    intro h
    obtain ⟨i1, i2⟩ := readN_len r (fun x hx => h x (by simp [hx]))
    have hp := h p (by simp)
    have hl := parseM_len p
    simp only [readN]
    split
    · split
      · refine ⟨by simpa using i1, ?_⟩
        intro x hx
        rcases List.mem_cons.1 hx with rfl | hx
        · omega
        · exact i2 x hx
      · simp
    · simp
theorem wholeN_eq {ps : Nm} {n : Nat} (hn : ps.length = n + 1) : wholeN ps = decide (ps[n]'(by omega) = []) := by
  unfold wholeN
  rw [List.getLast?_eq_getElem?, show ps.length - 1 = n by omega, List.getElem?_eq_getElem (by omega)]
  simp

def ParseNPost (s : ByteArray) (o : Nm) (w : World) (e : Ending) (w' : World) : Prop := ∃ v', e = .returned (.tuple #[v', .int .i64 (parseN s.data.toList o).2]) ∧ OwnG 9 strV w' w.heap.size v' (parseN s.data.toList o).1 ∧ Below w.heap.size w w'
theorem parseN_fin {s : ByteArray} {o : Nm} {w w' : World} {e : Ending} {v : Value} (l : Nm) (er : Int) (h : parseN s.data.toList o = (l, er)) (he : e = .returned (.tuple #[v, .int .i64 er])) (ho : OwnG 9 strV w' w.heap.size v l) (hw : Below w.heap.size w w') : ParseNPost s o w e w' := by
  unfold ParseNPost; rw [h]; exact ⟨v, he, ho, hw⟩

end Go.Proofs.YtfcdajldpnomfaaGreatDoor

/-
  Contract of name.Common.
-/
namespace Go.Proofs.YtfcdajldpnomfaaGreatDoor
set_option maxRecDepth 20000
open Go.RowKit Go.Shelf

section
attribute [local go_sem] Oper.semAt_some
end
end Go.Proofs.YtfcdajldpnomfaaGreatDoor

/-
  The document's data: small helpers (apart, counts).
-/
namespace Go.Proofs.YtfcdajldpnomfaaGreatDoor
set_option maxRecDepth 20000
open Go.RowKit Go.Shelf

set_option maxHeartbeats 2000000 in
theorem ref_apart (a b : Int) (w : World) : Calls Tryz.prog 60 #[.int .i64 a, .int .i64 b] w fun e w' => e = .returned (.int .i64 (cmpI a b)) ∧ w' = w := by
  unfold cmpI
  by_cases h1 : a < b
  · rw [if_pos h1]
    go_enter Tryz.func60, Tryz.ntmps60
    go_wp2
    go_ret
    exact ⟨rfl, rfl⟩
  · rw [if_neg h1]
    by_cases h2 : b < a
    · rw [if_pos h2]
      go_enter Tryz.func60, Tryz.ntmps60
      go_wp2
      go_ret
      exact ⟨rfl, rfl⟩
    · rw [if_neg h2]
      go_enter Tryz.func60, Tryz.ntmps60
      go_wp2
      go_ret
      exact ⟨rfl, rfl⟩

/-- How many names, numbers, octets a type has. -/
def countsM (t : Int) : Int × Int × Int :=
  if t = 1 then (0, 0, 4) else if t = 28 then (0, 0, 16) else if t = 2 ∨ t = 5 ∨ t = 12 ∨ t = 39 then (1, 0, 0) else if t = 15 then (1, 1, 0) else if t = 6 then (2, 5, 0) else if t = 16 then (0, 0, 0) else (0, 0, -1)
def CountsPost (t : Int) (w : World) (e : Ending) (w' : World) : Prop := e = .returned (.tuple #[.int .i64 (countsM t).1, .int .i64 (countsM t).2.1, .int .i64 (countsM t).2.2]) ∧ w' = w

set_option maxHeartbeats 2000000 in
theorem ref_counts (t : Int) (w : World) : Calls Tryz.prog 57 #[.int .i64 t] w (CountsPost t w) := by
  have lit : ∀ k : Int, t = k → ∀ c, countsM k = c → Calls Tryz.prog 57 #[.int .i64 k] w (fun e w' => e = .returned (.tuple #[.int .i64 c.1, .int .i64 c.2.1, .int .i64 c.2.2]) ∧ w' = w) → Calls Tryz.prog 57 #[.int .i64 t] w (CountsPost t w) := by
    rintro k rfl c rfl h; exact h
  by_cases h1 : t = 1
  · refine lit _ h1 _ rfl ?_
    go_enter Tryz.func57, Tryz.ntmps57
    go_wp2
    go_ret3
    exact ⟨rfl, rfl⟩
  by_cases h2 : t = 28
  · refine lit _ h2 _ rfl ?_
    go_enter Tryz.func57, Tryz.ntmps57
    go_wp2
    go_ret3
    exact ⟨rfl, rfl⟩
  by_cases h3 : t = 2
  · refine lit _ h3 _ rfl ?_
    go_enter Tryz.func57, Tryz.ntmps57
    go_wp2
    go_ret3
    exact ⟨rfl, rfl⟩
  by_cases h4 : t = 5
  · refine lit _ h4 _ rfl ?_
    go_enter Tryz.func57, Tryz.ntmps57
    go_wp2
    go_ret3
    exact ⟨rfl, rfl⟩
  by_cases h5 : t = 12
  · refine lit _ h5 _ rfl ?_
    go_enter Tryz.func57, Tryz.ntmps57
    go_wp2
    go_ret3
    exact ⟨rfl, rfl⟩
  by_cases h6 : t = 39
  · refine lit _ h6 _ rfl ?_
    go_enter Tryz.func57, Tryz.ntmps57
    go_wp2
    go_ret3
    exact ⟨rfl, rfl⟩
  by_cases h7 : t = 15
  · refine lit _ h7 _ rfl ?_
    go_enter Tryz.func57, Tryz.ntmps57
    go_wp2
    go_ret3
    exact ⟨rfl, rfl⟩
  by_cases h8 : t = 6
  · refine lit _ h8 _ rfl ?_
    go_enter Tryz.func57, Tryz.ntmps57
    go_wp2
    go_ret3
    exact ⟨rfl, rfl⟩
  by_cases h9 : t = 16
  · refine lit _ h9 _ rfl ?_
    go_enter Tryz.func57, Tryz.ntmps57
    go_wp2
    go_ret3
    exact ⟨rfl, rfl⟩
  have hc : countsM t = (0, 0, -1) := by
    unfold countsM
    rw [if_neg h1, if_neg h2, if_neg (by omega), if_neg h7, if_neg h8, if_neg h9]
  have HC := Lib.hid hc; clear hc lit
  have e1 : (t == 1) = false := by simpa using h1
  have e2 : (t == 28) = false := by simpa using h2
  have e3 : (t == 2) = false := by simpa using h3
  have e4 : (t == 5) = false := by simpa using h4
  have e5 : (t == 12) = false := by simpa using h5
  have e6 : (t == 39) = false := by simpa using h6
  have e7 : (t == 15) = false := by simpa using h7
  have e8 : (t == 6) = false := by simpa using h8
  have e9 : (t == 16) = false := by simpa using h9
  clear h1 h2 h3 h4 h5 h6 h7 h8 h9
  go_enter Tryz.func57, Tryz.ntmps57
  go_wp2
  go_ret3
  exact ⟨by rw [HC.out]; rfl, rfl⟩
end Go.Proofs.YtfcdajldpnomfaaGreatDoor

/-
  Strings turned into bytes of the call's own, turned one by one, and back: rtype.great, ref.FoldLabel.
-/
namespace Go.Proofs.YtfcdajldpnomfaaGreatDoor
set_option maxRecDepth 20000
open Go.RowKit Go.Shelf

/-- A row of bytes of the call's own, from the head of block g. -/
def BRow (g : Nat) (l : List UInt8) (W : World) : Prop := ∀ j (hj : j < l.length), W.cell? ⟨g, j, none⟩ = some (bv l[j]) ∧ W.frozen? ⟨g, j, none⟩ = false
theorem BRow.set {g : Nat} {l : List UInt8} {W : World} (h : BRow g l W) (k : Nat) (hk : k < l.length) (c : UInt8) : BRow g (l.set k c) (W.setCell ⟨g, k, none⟩ (bv c)) := by
  intro j hj
  rw [List.length_set] at hj
  rw [World.frozen?_setCell]
  refine ⟨?_, (h j hj).2⟩
  by_cases e : j = k
  · subst e
    rw [World.cell?_setCell_same' _ _ _ (by rw [(h j hk).1]; rfl)]
    simp
  · have hne : (⟨g, k, none⟩ : Addr) ≠ ⟨g, j, none⟩ := by intro q; injection q with _ e2 _; omega
    rw [World.cell?_setCell_other (h := hne), (h j hj).1]
    congr 2; rw [List.getElem_set_ne (by omega)]
theorem BRow.below {g n : Nat} {l : List UInt8} {W W' : World} (h : BRow g l W) (hb : Below n W W') (hg : g < n) : BRow g l W' := fun j hj =>
  ⟨(hb.cell (p := ⟨g, j, none⟩) hg).trans (h j hj).1, (hb.frozen (p := ⟨g, j, none⟩) hg).trans (h j hj).2⟩
theorem BRow.of_str (w : World) (s : ByteArray) : BRow w.heap.size s.data.toList (Lib.bytesWorld w 5 s) ∧ Below w.heap.size w (Lib.bytesWorld w 5 s) := by
  have hold := Lib.bytesWorld_at_old w 5 s
  have hsz := Lib.bytesWorld_size w 5 s
  have hcell := Lib.bytesWorld_cell w 5 s
  have hnew := Lib.bytesWorld_at_new w 5 s
  have hcs : s.size ≤ (Lib.bytesCells w 5 s).size := by unfold Lib.bytesCells; simp
  refine ⟨fun j hj => ⟨?_, ?_⟩, rfl, rfl, rfl, by rw [hsz]; omega, fun k hk => hold k hk⟩
  · have hj2 : j < s.size := by rw [← size_data]; exact hj
    rw [hcell j hj2]
    have : s.data.toList.getD j 0 = s[j] := by rw [List.getD_eq_getElem?_getD, Lib.data_getElem? s j hj2]; rfl
    rw [this]; rfl
  · have hj2 : j < s.size := by rw [← size_data]; exact hj
    unfold World.frozen?
    rw [hnew]
    simp; omega
theorem BRow.back {g : Nat} {l : List UInt8} {W : World} (h : BRow g l W) (n cap : Nat) (hn : n = l.length) :
    (convert 27 9 (.slice (some ⟨g, 0, none⟩) n cap)).run Tryz.prog W = .ok (.string ⟨l.toArray⟩) W := by
  subst hn
  exact run_convert_bytes_back W 27 9 5 ⟨g, 0, none⟩ cap l Tryz.underlying27 Tryz.underlying5 Tryz.underlying9 (fun j hj => by
    have e : ((⟨g, 0, none⟩ : Addr).add j) = ⟨g, j, none⟩ := by unfold Addr.add; by_cases hj : j = 0 <;> simp [hj]
    rw [e]; exact (h j hj).1)

theorem mapIdx_const (f : UInt8 → UInt8) (l : List UInt8) : l.mapIdx (fun _ c => f c) = l.map f := by
  apply List.ext_getElem (by simp)
  intro j h1 h2; simp
theorem BRow.same {g : Nat} {l : List UInt8} {W : World} (h : BRow g l W) (k : Nat) (hk : k < l.length) (c : UInt8) (e : l[k] = c) : BRow g (l.set k c) W := by
  subst e; rw [List.set_getElem_self]; exact h

end Go.Proofs.YtfcdajldpnomfaaGreatDoor

/-
  Decimals: number.Digits, number.Parse; the document's Number, Digit.
-/
namespace Go.Proofs.YtfcdajldpnomfaaGreatDoor
set_option maxRecDepth 20000
open Go.RowKit Go.Shelf

theorem allDigits_snoc (l : List UInt8) (c : UInt8) : allDigits (l ++ [c]) = (allDigits l && digitU c) := by simp [allDigits]
theorem allDigits_take {l : List UInt8} (h : allDigits l = true) (k : Nat) : allDigits (l.take k) = true := by
  unfold allDigits at *; rw [List.all_eq_true] at *; exact fun x hx => h x (List.mem_of_mem_take hx)
theorem allDigits_not {l : List UInt8} {k : Nat} (hk : k < l.length) (h : digitU l[k] = false) : allDigits l = false := by
  cases e : allDigits l with
  | false => rfl
  | true => unfold allDigits at e; rw [List.all_eq_true] at e; rw [e _ (List.getElem_mem hk)] at h; cases h
theorem digit_boundsI {c : UInt8} (h : digitU c = true) : (48 : Int) ≤ (c.toNat : Int) ∧ (c.toNat : Int) ≤ 57 := by rw [digitU_iff] at h; omega
theorem digit_not {c : UInt8} (h : digitU c = false) : (c.toNat : Int) < 48 ∨ (48 ≤ (c.toNat : Int) ∧ 57 < (c.toNat : Int)) := by
  have : ¬ (48 ≤ c.toNat ∧ c.toNat ≤ 57) := by rw [← digitU_iff, h]; simp
  omega


/-- What number.Parse and Number answer. -/
def NumPost (l : List UInt8) (most : Nat) (w : World) (e : Ending) (w' : World) : Prop := e = .returned (.tuple #[.int .i64 ((numM l most).1 : Int), .int .i64 (numM l most).2]) ∧ w' = w
theorem num_fin {l : List UInt8} {most : Nat} {w : World} {e : Ending} (v : Nat) (er : Int) (h : numM l most = (v, er)) (he : e = .returned (.tuple #[.int .i64 (v : Int), .int .i64 er])) : NumPost l most w e w := by
  unfold NumPost; rw [h]; exact ⟨he, rfl⟩
theorem head_get (s : ByteArray) (h : 0 < s.size) : s.data.toList.head? = some s[0] := by
  rw [List.head?_eq_getElem?, List.getElem?_eq_getElem (by rw [size_data]; exact h)]; rfl
theorem num_over {l : List UInt8} {most k : Nat} (hf : formN l = true) (h : most < valL (l.take k)) : numM l most = (0, 7) := by
  have := valL_prefix (List.take_prefix k l)
  unfold numM; rw [hf, if_pos rfl, if_neg (by omega)]

def NumSt (l : List UInt8) (most k v : Nat) (ov : Bool) : Prop := allDigits (l.take k) = true ∧ (ov = false → v ≤ most ∧ valL (l.take k) = v) ∧ (ov = true → most < valL (l.take k))
end Go.Proofs.YtfcdajldpnomfaaGreatDoor

