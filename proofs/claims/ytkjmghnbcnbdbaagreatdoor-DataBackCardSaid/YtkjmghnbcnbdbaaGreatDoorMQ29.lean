/-
  Contract of name.Common.
-/
import Derived.Test.YtkjmghnbcnbdbaaGreatDoorMQ15
import Derived.Test.YtkjmghnbcnbdbaaGreatDoorMQ38
namespace Go.Proofs.YtkjmghnbcnbdbaaGreatDoor
set_option maxRecDepth 20000
open Go.RowKit Go.Shelf

section
attribute [local go_sem] Oper.semAt_some
end
end Go.Proofs.YtkjmghnbcnbdbaaGreatDoor

