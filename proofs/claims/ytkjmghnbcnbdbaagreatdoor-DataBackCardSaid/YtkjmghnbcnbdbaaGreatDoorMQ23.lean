/-
  Data in their order: plain functions and facts.
-/
import Derived.Test.YtkjmghnbcnbdbaaGreatDoorMQ20
import Derived.Deep.RegionHeld3
namespace Go.Proofs.YtkjmghnbcnbdbaaGreatDoor
open Go.RowKit Go.Shelf

/-- Lists by their items, one by one; who has fewer, ahead. -/
def cmpL {α : Type} (f : α → α → Int) : List α → List α → Int
  | [], [] => 0
  | [], _ :: _ => -1
  | _ :: _, [] => 1
  | x :: r, y :: t => if f x y = 0 then cmpL f r t else f x y
def orI (a b : Int) : Int := if a = 0 then b else a
def cmpU (a b : Nat) : Int := cmpI a b
def cmpB (a b : UInt8) : Int := cmpI a.toNat b.toNat
def compareD (a b : Dat) : Int :=
  orI (cmpI a.ty b.ty) (orI (cmpL compareN a.names b.names) (orI (cmpL cmpU a.nums b.nums) (orI (cmpL orderM a.texts b.texts) (cmpL cmpB a.raw b.raw))))

section
variable {α : Type} {f : α → α → Int}
theorem cmpL_step {a b : List α} (k : Nat) (h1 : k < a.length) (h2 : k < b.length) :
    cmpL f (a.drop k) (b.drop k) = if f a[k] b[k] = 0 then cmpL f (a.drop (k + 1)) (b.drop (k + 1)) else f a[k] b[k] := by
  rw [List.drop_eq_getElem_cons h1, List.drop_eq_getElem_cons h2]
  rfl
theorem cmpL_nil (b : List α) : cmpL f [] b = cmpI 0 b.length := by
  cases b with
  | nil => rfl
  | cons x r => simp [cmpL, cmpI]
theorem cmpL_nil' (a : List α) : cmpL f a [] = cmpI a.length 0 := by
  cases a with
  | nil => rfl
  | cons x r => simp [cmpL, cmpI]; omega
theorem cmpI_sub (a b k : Int) : cmpI (a - k) (b - k) = cmpI a b := by
  unfold cmpI
  by_cases h : a < b
  · rw [if_pos h, if_pos (by omega)]
  · rw [if_neg h, if_neg (by omega)]
    by_cases h2 : b < a
    · rw [if_pos h2, if_pos (by omega)]
    · rw [if_neg h2, if_neg (by omega)]
theorem cmpL_end {a b : List α} (k : Nat) (h1 : k ≤ a.length) (h2 : k ≤ b.length) (h : k = a.length ∨ k = b.length) : cmpL f (a.drop k) (b.drop k) = cmpI a.length b.length := by
  rcases h with h | h
  · rw [List.drop_of_length_le (by omega), cmpL_nil, List.length_drop, ← cmpI_sub a.length b.length k]
    congr 1 <;> omega
  · rw [List.drop_of_length_le (l := b) (by omega), cmpL_nil', List.length_drop, ← cmpI_sub a.length b.length k]
    congr 1 <;> omega
theorem cmpL_swap (hf : ∀ x y, f y x = - f x y) : ∀ a b : List α, cmpL f b a = - cmpL f a b
  | [], [] => rfl
  | [], _ :: _ => rfl
  | _ :: _, [] => rfl
  | x :: r, y :: t => by
    simp only [cmpL, hf x y, cmpL_swap hf r t]
    by_cases h : f x y = 0
    · rw [if_pos h, if_pos (by omega)]
    · rw [if_neg h, if_neg (by omega)]
theorem cmpL_range (hf : ∀ x y, f x y = -1 ∨ f x y = 0 ∨ f x y = 1) : ∀ a b : List α, cmpL f a b = -1 ∨ cmpL f a b = 0 ∨ cmpL f a b = 1
  | [], [] => .inr (.inl rfl)
  | [], _ :: _ => .inl rfl
  | _ :: _, [] => .inr (.inr rfl)
  | x :: r, y :: t => by
    simp only [cmpL]
    split
    · exact cmpL_range hf r t
    · exact hf x y
end
theorem cmpI_swap (a b : Int) : cmpI b a = - cmpI a b := by
  rcases cmpI_cases a b with ⟨h, h2⟩ | ⟨h, h2⟩ | ⟨h, h2⟩ <;> rcases cmpI_cases b a with ⟨g, g2⟩ | ⟨g, g2⟩ | ⟨g, g2⟩ <;> omega
theorem cmpI_range (a b : Int) : cmpI a b = -1 ∨ cmpI a b = 0 ∨ cmpI a b = 1 := by
  rcases cmpI_cases a b with ⟨h, h2⟩ | ⟨h, h2⟩ | ⟨h, h2⟩ <;> omega
theorem orI_swap {a b a' b' : Int} (h : a' = -a) (h2 : b' = -b) : orI a' b' = - orI a b := by
  unfold orI; subst h h2
  by_cases h : a = 0
  · rw [if_pos h, if_pos (by omega)]
  · rw [if_neg h, if_neg (by omega)]
theorem orI_range {a b : Int} (h : a = -1 ∨ a = 0 ∨ a = 1) (h2 : b = -1 ∨ b = 0 ∨ b = 1) : orI a b = -1 ∨ orI a b = 0 ∨ orI a b = 1 := by
  unfold orI; split <;> assumption

theorem orderM_cmpL : ∀ a b : List UInt8, orderM a b = cmpL cmpB a b
  | [], [] => by simp [orderM, cmpL, Op.bytesLess]
  | [], _ :: _ => by simp [orderM, cmpL, Op.bytesLess]
  | _ :: _, [] => by simp [orderM, cmpL, Op.bytesLess]
  | x :: r, y :: t => by
    have ih := orderM_cmpL r t
    simp only [cmpL]
    rcases cmpI_cases x.toNat y.toNat with ⟨h, h2⟩ | ⟨h, h2⟩ | ⟨h, h2⟩
    · have hc : cmpB x y = -1 := h
      rw [hc]
      have : x < y := by rw [UInt8.lt_iff_toNat_lt]; omega
      simp [orderM, Op.bytesLess, this]
    · have hc : cmpB x y = 0 := h
      have e : x = y := UInt8.toNat_inj.1 (by omega)
      subst e
      rw [hc, ← ih]
      have : ¬ x < x := by rw [UInt8.lt_iff_toNat_lt]; omega
      simp [orderM, Op.bytesLess, this]
    · have hc : cmpB x y = 1 := h
      rw [hc]
      have n1 : ¬ x < y := by rw [UInt8.lt_iff_toNat_lt]; omega
      have n2 : ¬ x = y := by rintro rfl; omega
      simp [orderM, Op.bytesLess, n1, n2]
theorem cmpB_swap (a b : UInt8) : cmpB b a = - cmpB a b := cmpI_swap _ _
theorem cmpB_range (a b : UInt8) : cmpB a b = -1 ∨ cmpB a b = 0 ∨ cmpB a b = 1 := cmpI_range _ _
theorem cmpU_swap (a b : Nat) : cmpU b a = - cmpU a b := cmpI_swap _ _
theorem cmpU_range (a b : Nat) : cmpU a b = -1 ∨ cmpU a b = 0 ∨ cmpU a b = 1 := cmpI_range _ _
theorem orderM_swap (a b : List UInt8) : orderM b a = - orderM a b := by rw [orderM_cmpL, orderM_cmpL]; exact cmpL_swap cmpB_swap a b
theorem orderM_range (a b : List UInt8) : orderM a b = -1 ∨ orderM a b = 0 ∨ orderM a b = 1 := by rw [orderM_cmpL]; exact cmpL_range cmpB_range a b
theorem compareD_swap (a b : Dat) : compareD b a = - compareD a b :=
  orI_swap (cmpI_swap _ _) (orI_swap (cmpL_swap compareN_swap _ _) (orI_swap (cmpL_swap cmpU_swap _ _) (orI_swap (cmpL_swap orderM_swap _ _) (cmpL_swap cmpB_swap _ _))))
theorem compareD_range (a b : Dat) : compareD a b = -1 ∨ compareD a b = 0 ∨ compareD a b = 1 :=
  orI_range (cmpI_range _ _) (orI_range (cmpL_range compareN_range _ _) (orI_range (cmpL_range cmpU_range _ _) (orI_range (cmpL_range orderM_range _ _) (cmpL_range cmpB_range _ _))))

end Go.Proofs.YtkjmghnbcnbdbaaGreatDoor

/-
  The document's names (package toponymref6): Same, Under.
-/
namespace Go.Proofs.YtkjmghnbcnbdbaaGreatDoor
set_option maxRecDepth 20000
open Go.RowKit Go.Shelf

theorem keepS2 {n : Nat} {w W W' : World} {p q : Addr} {u v : Value} (h : W.cell? p = some u ∧ W.cell? q = some v ∧ Below n w W) (hb : Below W.heap.size W W') (hp : p.block < n) (hq : q.block < n) (hn : n ≤ w.heap.size) :
    W'.cell? p = some u ∧ W'.cell? q = some v ∧ Below n w W' := by
  have hz := h.2.2.size
  exact ⟨(hb.cell (by omega)).trans h.1, (hb.cell (by omega)).trans h.2.1, h.2.2.trans (hb.mono (by omega))⟩

theorem nm_nil (W : World) : NmAt W (.slice none 0 0) [] := ⟨⟨_, _, rfl, .inl rfl⟩, SlOK.nil⟩
theorem foldN_cons (x : List UInt8) (r : Nm) : foldN (x :: r) = foldL x :: foldN r := rfl
theorem foldL_size (l : List UInt8) : (foldL l).length = l.length := by simp [foldL]

end Go.Proofs.YtkjmghnbcnbdbaaGreatDoor

