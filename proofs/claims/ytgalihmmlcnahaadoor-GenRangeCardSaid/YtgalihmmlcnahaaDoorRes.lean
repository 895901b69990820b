/-
  A result that lies in a box; facts on a round's end.
-/
import Derived.Test.YtgalihmmlcnahaaDoorOwn
namespace Go.Proofs.YtgalihmmlcnahaaDoor
set_option maxRecDepth 20000
open Go.RowKit Go.Shelf

theorem results_cell {fn : Func} {t : Tmp} {T : TypeId} {k : IntKind} (h : fn.results = #[.cell t T]) (hT : Tryd.prog.underlying T = some (.int k)) (tmps : Array Value) (W : World) {b : Nat} {v : Value}
    (ht : tmps.getD t undef = .pointer (some ⟨b, 0, none⟩)) (hc : W.cell? ⟨b, 0, none⟩ = some v) : (results fn tmps).run Tryd.prog W = .ok v W := by
  have ht' : tmps[t]?.getD undef = .pointer (some ⟨b, 0, none⟩) := by rw [← ht]; simp
  have hu : ∀ w, Sem.run Tryd.prog (underlying T) w = .ok _ w := run_underlying hT
  simp [results, h, ht', loadVar, asAddr, go_sem, hu, hc, isAgg]
theorem results_cellB {fn : Func} {t : Tmp} {T : TypeId} (h : fn.results = #[.cell t T]) (hT : Tryd.prog.underlying T = some .bool) (tmps : Array Value) (W : World) {b : Nat} {v : Value}
    (ht : tmps.getD t undef = .pointer (some ⟨b, 0, none⟩)) (hc : W.cell? ⟨b, 0, none⟩ = some v) : (results fn tmps).run Tryd.prog W = .ok v W := by
  have ht' : tmps[t]?.getD undef = .pointer (some ⟨b, 0, none⟩) := by rw [← ht]; simp
  have hu : ∀ w, Sem.run Tryd.prog (underlying T) w = .ok _ w := run_underlying hT
  simp [results, h, ht', loadVar, asAddr, go_sem, hu, hc, isAgg]
theorem out_cell {W : World} {h D : Nat} {T : TypeId} {v : Value} (hb : Boxed W h T v) (hne : h ≠ D) (o : Obj) : (W.putObj D o).cell? ⟨h, 0, none⟩ = some v :=
  (hb.kept (grownBy_putObj' W D o) (by intro e; cases e; exact hne rfl)).cell
theorem heap_setOther {W : World} {h D : Nat} {o : Obj} (hK : W.heap[D]? = some o) (hne : D ≠ h) (u : Value) : (W.setCell ⟨h, 0, none⟩ u).heap[D]? = some o := by
  rw [Below.heap_setCell W ⟨h, 0, none⟩ u D hne]; exact hK
theorem heap_below {W W' : World} {D : Nat} {o : Obj} (hK : W.heap[D]? = some o) (hb : Below W.heap.size W W') : W'.heap[D]? = some o :=
  (hb.block D (Array.getElem?_eq_some_iff.1 hK).1).trans hK
theorem below_putO {n D : Nat} {w W : World} {o' : Obj} (h : Below n w W) (hD : n ≤ D) (hn : n ≤ w.heap.size) : Below n w (W.putObj D o') :=
  h.trans ((Below.refl n W).grown (grownBy_putObj' W D o') (Nat.le_trans hn h.size) (fun k e => by cases e; exact hD))
end Go.Proofs.YtgalihmmlcnahaaDoor
