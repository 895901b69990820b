/-
  Contract of name.Common.
-/
import Derived.Test.YtfcdajldpnomfaaMQ20
import Derived.Test.YtfcdajldpnomfaaMQ36
namespace Go.Proofs.Ytfcdajldpnomfaa
set_option maxRecDepth 20000
open Go.RowKit Go.Shelf

section
attribute [local go_sem] Oper.semAt_some
end
end Go.Proofs.Ytfcdajldpnomfaa

