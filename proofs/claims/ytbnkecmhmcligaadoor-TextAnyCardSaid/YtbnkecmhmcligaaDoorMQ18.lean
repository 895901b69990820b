/-
  Contracts of name.Child and name.Swap.
-/
import Derived.Test.YtbnkecmhmcligaaDoorMQ17
namespace Go.Proofs.YtbnkecmhmcligaaDoor
set_option linter.unusedVariables false
set_option linter.unusedSimpArgs false
set_option maxRecDepth 20000
open Go.RowKit Go.Shelf

theorem wpl_make_g {α : Type} {T S : TypeId} {enc : α → Value} {ops : Array Oper} {rest : List Oper} {o : Oper} {a : Act} {Q : Exit → Act → World → Prop} (W : World) (hgd : o.guard = none) (l c : Operand) {bytes : Nat} (hE : ElemT T S bytes)
    (ho : o.op = Op.makeSlice S l c) (base : Nat) (kl kc : IntKind) (C : Int) (n : Nat) (hl : a.eval l = .int kl 0) (hc : a.eval c = .int kc C) (hC : C = (n : Int)) (b2 : bytes * n ≤ 281474976710656) (b3 : n ≤ maxLen) (b4 : base ≤ W.heap.size)
    (h : ∀ w', OwnG T enc w' base (.slice (some ⟨W.heap.size, 0, none⟩) 0 n) [] → W.grownBy w' none → wpList Tryd.prog ops Q rest (a.put o.dst (.slice (some ⟨W.heap.size, 0, none⟩) 0 n)) w') :
    wpList Tryd.prog ops Q (o :: rest) a W := by
  obtain ⟨ht, i, z, hi, hz, hz1, hz2, _⟩ := hE
  exact wpList_make_own W hgd l c S ho base T i z 1 ht hi hz hz1 kl kc C n hl hc hC (by rw [hz2]; exact b2) b3 b4 (fun w' h1 h2 => h w' h1 h2)

def CopyPost (xs : Nm) (w : World) (e : Ending) (w' : World) : Prop := ∃ v', e = .returned v' ∧ OwnG 9 strV w' w.heap.size v' xs ∧ Below w.heap.size w w'

theorem OwnG.below {α : Type} {T : TypeId} {enc : α → Value} {W W' : World} {base : Nat} {v : Value} {xs : List α} (h : OwnG T enc W base v xs) (hb : Below W.heap.size W W') : OwnG T enc W' base v xs :=
  h.kept (row := none) ⟨hb.os, hb.tape, hb.output, hb.size, fun k hk _ => hb.block k hk⟩ (by cases v.ownBlock <;> simp)
def SwapPost (n f t : Nm) (w : World) (e : Ending) (w' : World) : Prop := ∃ v', e = .returned (.tuple #[v', .int .i64 (swapN n f t).2]) ∧ OwnG 9 strV w' w.heap.size v' (swapN n f t).1 ∧ Below w.heap.size w w'
theorem swap_fin {n f t : Nm} {w w' : World} {e : Ending} {v : Value} (l : Nm) (er : Int) (h : swapN n f t = (l, er)) (he : e = .returned (.tuple #[v, .int .i64 er])) (ho : OwnG 9 strV w' w.heap.size v l) (hw : Below w.heap.size w w') : SwapPost n f t w e w' := by
  unfold SwapPost; rw [h]; exact ⟨v, he, ho, hw⟩

end Go.Proofs.YtbnkecmhmcligaaDoor

/-
  Contract of name.Fold.
-/
namespace Go.Proofs.YtbnkecmhmcligaaDoor
set_option linter.unusedVariables false
set_option linter.unusedSimpArgs false
set_option maxRecDepth 20000
open Go.RowKit Go.Shelf

theorem foldN_snoc (xs : Nm) (y : List UInt8) : foldN (xs ++ [y]) = foldN xs ++ [foldL y] := by simp [foldN]
theorem wplIn_make_g {F : Fence} {d : Nat} {α : Type} {T S : TypeId} {enc : α → Value} {ops : Array Oper} {rest : List Oper} {o : Oper} {a : Act} {Q : Exit → Act → World → Prop} (W : World) (hgd : o.guard = none) (l c : Operand) {bytes : Nat} (hE : ElemT T S bytes)
    (ho : o.op = Op.makeSlice S l c) (base : Nat) (kl kc : IntKind) (C : Int) (n : Nat) (hl : a.eval l = .int kl 0) (hc : a.eval c = .int kc C) (hC : C = (n : Int)) (b2 : bytes * n ≤ 281474976710656) (b3 : n ≤ maxLen) (b4 : base ≤ W.heap.size)
    (h : ∀ w', OwnG T enc w' base (.slice (some ⟨W.heap.size, 0, none⟩) 0 n) [] → W.grownBy w' none → wpListIn F d Tryd.prog ops Q rest (a.put o.dst (.slice (some ⟨W.heap.size, 0, none⟩) 0 n)) w') :
    wpListIn F d Tryd.prog ops Q (o :: rest) a W := by
  obtain ⟨ht, i, z, hi, hz, hz1, hz2, _⟩ := hE
  exact wpListIn_make_own W hgd l c S ho base T i z 1 ht hi hz hz1 kl kc C n hl hc hC (by rw [hz2]; exact b2) b3 b4 (fun w' h1 h2 => h w' h1 h2)

section
attribute [local go_sem] Oper.semAt_some
end
end Go.Proofs.YtbnkecmhmcligaaDoor

