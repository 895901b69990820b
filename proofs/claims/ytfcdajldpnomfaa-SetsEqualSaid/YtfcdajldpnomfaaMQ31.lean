/-
  Contract of name.Common.
-/
import Derived.Test.YtfcdajldpnomfaaMQ19
import Derived.Test.YtfcdajldpnomfaaMQ18
namespace Go.Proofs.Ytfcdajldpnomfaa
set_option maxRecDepth 20000
open Go.RowKit Go.Shelf

section
attribute [local go_sem] Oper.semAt_some
end
end Go.Proofs.Ytfcdajldpnomfaa

