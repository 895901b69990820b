/-
  The document's ParseType.
-/
import Derived.Test.YtbnkecmhmcligaaDoorMQ09
namespace Go.Proofs.YtbnkecmhmcligaaDoor
set_option linter.unusedVariables false
set_option linter.unusedSimpArgs false
set_option maxRecDepth 20000
open Go.RowKit Go.Shelf

theorem take_type (s : List UInt8) : ((foldL s).take 4 = [116, 121, 112, 101]) ↔ ((greatL s).take 4 = [84, 89, 80, 69]) := by
  constructor
  · intro h
    have := congrArg greatL h
    rw [show greatL [116, 121, 112, 101] = [84, 89, 80, 69] by decide] at this
    rw [← this, ← greatL_fold s]; simp [greatL, List.map_take]
  · intro h
    have := congrArg foldL h
    rw [show foldL [84, 89, 80, 69] = [116, 121, 112, 101] by decide] at this
    rw [← this, ← foldL_great s]; simp [foldL, List.map_take]
theorem numM_er (l : List UInt8) (most : Nat) : (numM l most).2 = 0 ∨ (numM l most).2 = 2 ∨ (numM l most).2 = 7 := by
  unfold numM; split
  · split <;> simp
  · simp
/-- Behind the names: a number. -/
def endType (l : List UInt8) : Int × Int := if (numM l 65535).2 = 2 then (0, 6) else if (numM l 65535).2 ≠ 0 ∨ (numM l 65535).1 = 0 then (0, 7) else ((numM l 65535).1, 0)
theorem parseType_none {s : List UInt8} (h : rowOfS (greatL s) = none) : parseTypeM s = if (greatL s).take 4 = [84, 89, 80, 69] then endType (s.drop 4) else (0, 6) := by unfold parseTypeM endType; rw [h]
theorem parseType_some {s : List UInt8} {j : Nat} (h : rowOfS (greatL s) = some j) : parseTypeM s = (typeT j, 0) := by unfold parseTypeM; rw [h]
def ParseTPost (l : List UInt8) (w : World) (e : Ending) (w' : World) : Prop := e = .returned (.tuple #[.int .i64 (parseTypeM l).1, .int .i64 (parseTypeM l).2]) ∧ Below w.heap.size w w'
theorem ptype_fin {l : List UInt8} {w w' : World} {e : Ending} (v er : Int) (h : parseTypeM l = (v, er)) (he : e = .returned (.tuple #[.int .i64 v, .int .i64 er])) (hb : Below w.heap.size w w') : ParseTPost l w e w' := by
  unfold ParseTPost; rw [h]; exact ⟨he, hb⟩
theorem typeName_at (j : Nat) (hj : j < 9) : typeNameM (typeT j) = typeS j := by unfold typeNameM; rw [rowOfT_typeT j hj]

end Go.Proofs.YtbnkecmhmcligaaDoor

