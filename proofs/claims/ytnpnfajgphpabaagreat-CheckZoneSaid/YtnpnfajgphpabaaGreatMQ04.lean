import Derived.Test.YtnpnfajgphpabaaGreatMQ29
import Derived.Test.YtnpnfajgphpabaaGreatMQ36
namespace Go.Proofs.YtnpnfajgphpabaaGreat
set_option maxRecDepth 20000
open Go.RowKit Go.Shelf
theorem qfK {l : Nm} {k : Nat} (hk : k < l.length) (h : 255 < l[k].length) : longT l = true := by
 unfold longT; rw [List.any_eq_true]; exact ⟨_, List.getElem_mem hk, by simpa using h⟩
theorem qey (l : Nm) (x : List UInt8) : longT (l ++ [x]) = (longT l || decide (255 < x.length)) := by simp [longT]
theorem qi4 (l : List Nat) (h : 0 < l.length) : l.headD 0 = l[0] := by
 cases l with
 | nil => simp at h
 | cons a r => rfl
def qdK (d : Dat) (w : World) (e : Ending) (w' : World) : Prop := e = .returned (.int .i64 (checkD d)) ∧ Below w.heap.size w w'
theorem qaG {d : Dat} {w w' : World} {e : Ending} (er : Int) (h : checkD d = er) (he : e = .returned (.int .i64 er)) (hb : Below w.heap.size w w') : qdK d w e w' := by
 subst h; exact ⟨he, hb⟩
theorem qhs {d : Dat} (h : d.ty < 1 ∨ 65535 < d.ty) : checkD d = 6 := by unfold checkD; rw [if_pos h]
theorem qgA {d : Dat} (h : ¬ (d.ty < 1 ∨ 65535 < d.ty)) (h2 : qbm d = false) : checkD d = 2 := by unfold checkD; rw [if_neg h, if_pos h2]
theorem qhF {d : Dat} (h : ¬ (d.ty < 1 ∨ 65535 < d.ty)) (h2 : qbm d = true) : checkD d = if qax d.names ≠ 0 then qax d.names else if d.ty = 15 ∧ 65535 < d.nums.headD 0 then 7 else if longT d.texts then 3 else if 1024 < d.raw.length then 3 else 0 := by
 unfold checkD; rw [if_neg h, if_neg (by rw [h2]; simp)]
end Go.Proofs.YtnpnfajgphpabaaGreat
