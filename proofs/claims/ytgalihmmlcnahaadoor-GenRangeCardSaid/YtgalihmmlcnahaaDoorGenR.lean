/-
  A result of struct type with three ints, in a box of its own.
-/
import Derived.Test.YtgalihmmlcnahaaDoorGenB
namespace Go.Proofs.YtgalihmmlcnahaaDoor
open Go.RowKit Go.Shelf
set_option maxRecDepth 20000
set_option linter.unusedVariables false
set_option linter.unusedSimpArgs false

theorem results_rng {fn : Func} {t u : Tmp} (h : fn.results = #[.cell t 23, .tmp u]) (tmps : Array Value) (W : World) {a : Nat} {x y z v : Value} (h1 : x.oneCell' = true) (h2 : y.oneCell' = true) (h3 : z.oneCell' = true)
    (ht : tmps.getD t undef = .pointer (some ⟨a, 0, none⟩)) (hv : tmps.getD u undef = v) (hx : W.cell? ⟨a, 0, none⟩ = some x) (hy : W.cell? ⟨a, 1, none⟩ = some y) (hz : W.cell? ⟨a, 2, none⟩ = some z) : (results fn tmps).run Tryd.prog W = .ok (.tuple #[.agg #[x, y, z], v]) W := by
  have ht' : tmps[t]?.getD undef = .pointer (some ⟨a, 0, none⟩) := by rw [← ht]; simp
  have hv' : tmps[u]?.getD undef = v := by rw [← hv]; simp
  have hu : ∀ w, Sem.run Tryd.prog (underlying 23) w = .ok _ w := run_underlying Tryd.underlying23
  simp [results, h, ht', hv', loadVar, asAddr, go_sem, hu, hx, hy, hz, isAgg]
end Go.Proofs.YtgalihmmlcnahaaDoor
