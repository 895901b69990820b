/-
  Contract of name.Compare.
-/
import Derived.Test.YtbnkecmhmcligaaDoorMQ17
import Derived.Test.YtbnkecmhmcligaaDoorMQ36
import Derived.Test.YtbnkecmhmcligaaDoorMQ23
import Derived.Deep.RegionHeld3
namespace Go.Proofs.YtbnkecmhmcligaaDoor
set_option linter.unusedVariables false
set_option linter.unusedSimpArgs false
set_option maxRecDepth 20000
open Go.RowKit Go.Shelf

section
attribute [local go_sem] Oper.semAt_some
end
end Go.Proofs.YtbnkecmhmcligaaDoor

/-
  The document's names (package toponymref6): Same, Under.
-/
namespace Go.Proofs.YtbnkecmhmcligaaDoor
set_option linter.unusedVariables false
set_option linter.unusedSimpArgs false
set_option maxRecDepth 20000
open Go.RowKit Go.Shelf

theorem keepS2 {n : Nat} {w W W' : World} {p q : Addr} {u v : Value} (h : W.cell? p = some u ∧ W.cell? q = some v ∧ Below n w W) (hb : Below W.heap.size W W') (hp : p.block < n) (hq : q.block < n) (hn : n ≤ w.heap.size) :
    W'.cell? p = some u ∧ W'.cell? q = some v ∧ Below n w W' := by
  have hz := h.2.2.size
  exact ⟨(hb.cell (by omega)).trans h.1, (hb.cell (by omega)).trans h.2.1, h.2.2.trans (hb.mono (by omega))⟩

theorem nm_nil (W : World) : NmAt W (.slice none 0 0) [] := ⟨⟨_, _, rfl, .inl rfl⟩, SlOK.nil⟩
theorem foldN_cons (x : List UInt8) (r : Nm) : foldN (x :: r) = foldL x :: foldN r := rfl
theorem foldL_size (l : List UInt8) : (foldL l).length = l.length := by simp [foldL]

end Go.Proofs.YtbnkecmhmcligaaDoor

