/-
  The statements' own helper of layer 2: Is.
-/
import Derived.Test.YtbnkecmhmcligaaDoorMQ23
namespace Go.Proofs.YtbnkecmhmcligaaDoor
set_option linter.unusedVariables false
set_option linter.unusedSimpArgs false
set_option maxRecDepth 20000
open Go.RowKit Go.Shelf

end Go.Proofs.YtbnkecmhmcligaaDoor

/-
  The statements' own helper of layer 2: Good.
-/
namespace Go.Proofs.YtbnkecmhmcligaaDoor
set_option linter.unusedVariables false
set_option linter.unusedSimpArgs false
set_option maxRecDepth 20000
open Go.RowKit Go.Shelf

def goodN (xs : Nm) : Bool := fewN xs && decide (checkN xs = 0)
end Go.Proofs.YtbnkecmhmcligaaDoor

