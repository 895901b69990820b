import Derived.Test.YtckammgnmgkieaaGreatMQ30
namespace Go.Proofs.YtckammgnmgkieaaGreat
set_option maxRecDepth 20000
open Go.RowKit Go.Shelf
theorem qgJ {l : Nm} {k : Nat} (hk : k < l.length) (h : 255 < l[k].length) : longT l = true := by
 unfold longT; rw [List.any_eq_true]; exact ⟨_, List.getElem_mem hk, by simpa using h⟩
theorem qfs (l : Nm) (x : List UInt8) : longT (l ++ [x]) = (longT l || decide (255 < x.length)) := by simp [longT]
theorem qlo (l : List Nat) (h : 0 < l.length) : l.headD 0 = l[0] := by
 cases l with
 | nil => simp at h
 | cons a r => rfl
def qec (d : Dat) (w : World) (e : Ending) (w' : World) : Prop := e = .returned (.int .i64 (checkD d)) ∧ Below w.heap.size w w'
theorem qaJ {d : Dat} {w w' : World} {e : Ending} (er : Int) (h : checkD d = er) (he : e = .returned (.int .i64 er)) (hb : Below w.heap.size w w') : qec d w e w' := by
 subst h; exact ⟨he, hb⟩
theorem qiY {d : Dat} (h : d.ty < 1 ∨ 65535 < d.ty) : checkD d = 6 := by unfold checkD; rw [if_pos h]
theorem qht {d : Dat} (h : ¬ (d.ty < 1 ∨ 65535 < d.ty)) (h2 : qa7 d = false) : checkD d = 2 := by unfold checkD; rw [if_neg h, if_pos h2]
theorem qiH {d : Dat} (h : ¬ (d.ty < 1 ∨ 65535 < d.ty)) (h2 : qa7 d = true) : checkD d = if qav d.names ≠ 0 then qav d.names else if d.ty = 15 ∧ 65535 < d.nums.headD 0 then 7 else if longT d.texts then 3 else if 1024 < d.raw.length then 3 else 0 := by
 unfold checkD; rw [if_neg h, if_neg (by rw [h2]; simp)]
end Go.Proofs.YtckammgnmgkieaaGreat
