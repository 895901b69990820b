import Derived.Test.YtkjmghnbcnbdbaaGreatDoorMQ23
/-
  Plain facts for DataFolds: folding the names of data leaves the order; one text more is behind.
-/
namespace Go.Proofs.YtkjmghnbcnbdbaaGreatDoor
theorem foldN_idem (n : Nm) : foldN (foldN n) = foldN n := by
  unfold foldN
  rw [List.map_map]
  apply List.map_congr_left
  intro x _
  exact foldL_idem x
theorem compareN_fold (n : Nm) : compareN (foldN n) n = 0 := by
  rw [compareN_zero, sameN_iff]; exact foldN_idem n
theorem cmpL_fold : ∀ ns : List Nm, cmpL compareN (ns.map foldN) ns = 0
  | [] => rfl
  | n :: r => by
    show (if compareN (foldN n) n = 0 then cmpL compareN (r.map foldN) r else compareN (foldN n) n) = 0
    rw [if_pos (compareN_fold n)]
    exact cmpL_fold r
theorem cmpL_self {α : Type} {f : α → α → Int} (hf : ∀ x, f x x = 0) : ∀ a : List α, cmpL f a a = 0
  | [] => rfl
  | x :: r => by
    show (if f x x = 0 then cmpL f r r else f x x) = 0
    rw [if_pos (hf x)]
    exact cmpL_self hf r
theorem cmpL_more {α : Type} {f : α → α → Int} (hf : ∀ x, f x x = 0) (y : α) : ∀ a : List α, cmpL f a (a ++ [y]) = -1
  | [] => rfl
  | x :: r => by
    show (if f x x = 0 then cmpL f r (r ++ [y]) else f x x) = -1
    rw [if_pos (hf x)]
    exact cmpL_more hf y r
theorem cmpI_self' (a : Int) : cmpI a a = 0 := by simp [cmpI]
theorem orderM_self (a : List UInt8) : orderM a a = 0 := by
  rw [orderM_cmpL]; exact cmpL_self (f := cmpB) (fun x => cmpI_self' _) a
theorem compareN_self (n : Nm) : compareN n n = 0 := by rw [compareN_zero, sameN_iff]
theorem compareD_folded (d : Dat) : compareD ⟨d.ty, d.names.map foldN, d.nums, d.texts, d.raw⟩ d = 0 := by
  unfold compareD orI
  simp only
  rw [if_pos (cmpI_self' _), if_pos (cmpL_fold _), if_pos (cmpL_self (f := cmpU) (fun x => cmpI_self' _) _), if_pos (cmpL_self orderM_self _)]
  exact cmpL_self (f := cmpB) (fun x => cmpI_self' _) _
theorem compareD_more (d : Dat) (y : List UInt8) : compareD d ⟨d.ty, d.names, d.nums, d.texts ++ [y], d.raw⟩ = -1 := by
  unfold compareD orI
  simp only
  rw [if_pos (cmpI_self' _), if_pos (cmpL_self compareN_self _), if_pos (cmpL_self (f := cmpU) (fun x => cmpI_self' _) _), cmpL_more orderM_self]
  rfl
theorem compareD_more' (d : Dat) (y : List UInt8) : compareD ⟨d.ty, d.names, d.nums, d.texts ++ [y], d.raw⟩ d = 1 := by
  rw [compareD_swap, compareD_more]; rfl
end Go.Proofs.YtkjmghnbcnbdbaaGreatDoor
