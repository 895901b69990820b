import Derived.StillTailTactics
import Derived.Test.YtnpnfajgphpabaaGreatMQ02
import Derived.Test.YtnpnfajgphpabaaGreatMQ01
namespace Go.Proofs.YtnpnfajgphpabaaGreat
set_option maxRecDepth 20000
open Go.RowKit Go.Shelf
def set5 (W : World) (R : Nat) (x0 x1 x2 x3 x4 : Value) : World := ((((W.setCell ⟨R, 0, none⟩ x0).setCell ⟨R, 1, none⟩ x1).setCell ⟨R, 2, none⟩ x2).setCell ⟨R, 3, none⟩ x3).setCell ⟨R, 4, none⟩ x4
theorem qih {w W : World} {R : Nat} (hb : Below R w W) (x0 x1 x2 x3 x4 : Value) : Below R w (set5 W R x0 x1 x2 x3 x4) :=
 ((((hb.setCell (p := ⟨R, 0, none⟩) (qN0) x0).setCell (p := ⟨R, 1, none⟩) (qN0) x1).setCell (p := ⟨R, 2, none⟩) (qN0) x2).setCell (p := ⟨R, 3, none⟩) (qN0) x3).setCell (p := ⟨R, 4, none⟩) (qN0) x4
end Go.Proofs.YtnpnfajgphpabaaGreat
