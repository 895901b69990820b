/-
  Package name's contracts in one spelling, for laws: arguments that read as names, answers named by equations.
-/
import Derived.Test.YtbnkecmhmcligaaMQ13
import Derived.Test.YtbnkecmhmcligaaMQ40
import Derived.Test.YtbnkecmhmcligaaMQ30
import Derived.Test.YtbnkecmhmcligaaMQ31
namespace Go.Proofs.Ytbnkecmhmcligaa
set_option linter.unusedVariables false
set_option linter.unusedSimpArgs false
set_option maxRecDepth 20000
open Go.RowKit Go.Shelf

theorem NmAt.alloc {W : World} {v : Value} {xs : Nm} (h : NmAt W v xs) (o : Obj) : NmAt (W.alloc o) v xs := h.below ((Below.refl _ _).alloc (Nat.le_refl _) _)

theorem nm_lit (W : World) (ys : Nm) (cs : List Value) (k g : Nat) (hc : cs = ys.map strV) (hk : ys.length = k) (hm : k ≤ 1048576) (hg : W.heap.size = g) :
    NmAt (W.alloc (.cells cs.toArray 9)) (.slice (some ⟨g, 0, none⟩) k k) ys := by
  subst hc hk hg
  exact (OwnG.lit (T := 9) (enc := strV) W W.heap.size (Nat.le_refl _) ys (by unfold maxLen; omega)).nmAt
theorem nmOK_of {xs : Nm} (h : fewN xs = true) : NmOK xs := fewN_ok h

def NmRes (xs : Nm) (k : Nat) (w : World) (e : Ending) (w' : World) : Prop := ∃ a c, e = .returned (.slice a k c) ∧ NmAt w' (.slice a k c) xs ∧ Below w.heap.size w w'
def NmRes2 (xs : Nm) (k : Nat) (er : Int) (w : World) (e : Ending) (w' : World) : Prop := ∃ a c, e = .returned (.tuple #[.slice a k c, .int .i64 er]) ∧ NmAt w' (.slice a k c) xs ∧ Below w.heap.size w w'
theorem nmRes_of {xs : Nm} {k : Nat} {w w' : World} {v : Value} (hk : xs.length = k) (ho : OwnG 9 strV w' w.heap.size v xs) (hb : Below w.heap.size w w') : NmRes xs k w (.returned v) w' := by
  subst hk
  obtain ⟨a, c, rfl⟩ := ho.shape
  exact ⟨a, c, rfl, ho.nmAt, hb⟩
theorem nmRes2_of {xs : Nm} {k : Nat} {er : Int} {w w' : World} {v : Value} (hk : xs.length = k) (ho : OwnG 9 strV w' w.heap.size v xs) (hb : Below w.heap.size w w') : NmRes2 xs k er w (.returned (.tuple #[v, .int .i64 er])) w' := by
  subst hk
  obtain ⟨a, c, rfl⟩ := ho.shape
  exact ⟨a, c, rfl, ho.nmAt, hb⟩

theorem kn_NChild (s : ByteArray) (v : Value) (n l : Nm) (k : Nat) (h : s.data.toList :: n = l) (hk : l.length = k) (w : World) (hA : NmAt w v n) (h1 : NmOK n) :
    Calls Try.prog 35 #[.string s, v] w (NmRes l k w) := by
  subst h; refine (name_Child s v n w hA.1 hA.2 h1).mono ?_
  rintro e w' ⟨v', rfl, ho, hb⟩; exact nmRes_of hk ho hb
theorem kn_NFold (v : Value) (n l : Nm) (k : Nat) (h : foldN n = l) (hk : l.length = k) (w : World) (hA : NmAt w v n) (h1 : NmOK n) :
    Calls Try.prog 29 #[v] w (NmRes l k w) := by
  subst h; refine (name_Fold v n w hA.1 h1).mono ?_
  rintro e w' ⟨v', rfl, ho, hb⟩; exact nmRes_of hk ho hb
end Go.Proofs.Ytbnkecmhmcligaa

