/-
  rdata.Parse.
-/
import Derived.Test.YteppgeiejknhoaaMQ05
namespace Go.Proofs.Yteppgeiejknhoaa
set_option maxRecDepth 20000
open Go.RowKit Go.Shelf
set_option maxRecDepth 20000

/-! ### Parse -/
/-- What Parse answers. -/
def ParseDPost (q : Dat × Int) (w : World) (e : Ending) (w' : World) : Prop := ∃ v', e = .returned (.tuple #[v', .int .i64 q.2]) ∧ DatAt w' v' q.1 ∧ Below w.heap.size w w'
theorem parseD_fin {q : Dat × Int} {w w' : World} {e : Ending} {v : Value} (d : Dat) (er : Int) (h : q = (d, er)) (he : e = .returned (.tuple #[v, .int .i64 er])) (hd : DatAt w' v d) (hb : Below w.heap.size w w') : ParseDPost q w e w' := by
  subst h; exact ⟨v, he, hd, hb⟩
theorem datAt_none (W : World) : DatAt W (.agg #[.int .i64 0, .slice none 0 0, .slice none 0 0, .slice none 0 0, .slice none 0 0]) Dat.none :=
  ⟨_, _, _, _, rfl, NmsAt.nil _, SlAt.nil _, nm_nil _, SlAt.nil _⟩
theorem parseD_type {t : Int} {l : List Wd} {o : Nm} (h : t < 1 ∨ 65535 < t) : parseD t l o = (Dat.none, 6) := by unfold parseD; rw [if_pos h]
theorem parseD_other {t : Int} {l : List Wd} {o : Nm} (h : ¬ (t < 1 ∨ 65535 < t)) (h2 : l.head? = some ([92, 35], false)) : parseD t l o = if (octetsD t (l.drop 1)).2 = 0 then (⟨t, [], [], [], (octetsD t (l.drop 1)).1⟩, 0) else (Dat.none, (octetsD t (l.drop 1)).2) := by
  unfold parseD; rw [if_neg h, if_pos h2]
theorem parseD_words {t : Int} {l : List Wd} {o : Nm} (h : ¬ (t < 1 ∨ 65535 < t)) (h2 : l.head? ≠ some ([92, 35], false)) : parseD t l o = if (wordsE (Dat.of t) o (formD t l.length) l).2 = 0 then ((wordsE (Dat.of t) o (formD t l.length) l).1, 0) else (Dat.none, (wordsE (Dat.of t) o (formD t l.length) l).2) := by
  unfold parseD wordsE; rw [if_neg h, if_neg h2]
  split <;> rfl
/-- Five stores into a box of data. -/
def set5 (W : World) (R : Nat) (x0 x1 x2 x3 x4 : Value) : World := ((((W.setCell ⟨R, 0, none⟩ x0).setCell ⟨R, 1, none⟩ x1).setCell ⟨R, 2, none⟩ x2).setCell ⟨R, 3, none⟩ x3).setCell ⟨R, 4, none⟩ x4
theorem set5_block {W : World} {R : Nat} {y0 y1 y2 y3 y4 : Value} (h : W.heap[R]? = some (.cells #[y0, y1, y2, y3, y4] 48)) (x0 x1 x2 x3 x4 : Value) : (set5 W R x0 x1 x2 x3 x4).heap[R]? = some (.cells #[x0, x1, x2, x3, x4] 48) :=
  block_set (block_set (block_set (block_set (block_set h 0 x0) 1 x1) 2 x2) 3 x3) 4 x4
theorem set5_row {W : World} {R : Nat} {y0 y1 y2 y3 y4 : Value} (h : W.heap[R]? = some (.cells #[y0, y1, y2, y3, y4] 48)) (x0 x1 x2 x3 x4 : Value) {base : Nat} {vn vu vt vr : Value} {d : Dat} (hr : DRow W base vn vu vt vr d) : DRow (set5 W R x0 x1 x2 x3 x4) base vn vu vt vr d :=
  ((((hr.set h 0 x0).set (block_set h 0 x0) 1 x1).set (block_set (block_set h 0 x0) 1 x1) 2 x2).set (block_set (block_set (block_set h 0 x0) 1 x1) 2 x2) 3 x3).set (block_set (block_set (block_set (block_set h 0 x0) 1 x1) 2 x2) 3 x3) 4 x4
theorem set5_below {w W : World} {R : Nat} (hb : Below R w W) (x0 x1 x2 x3 x4 : Value) : Below R w (set5 W R x0 x1 x2 x3 x4) :=
  ((((hb.setCell (p := ⟨R, 0, none⟩) (Nat.le_refl _) x0).setCell (p := ⟨R, 1, none⟩) (Nat.le_refl _) x1).setCell (p := ⟨R, 2, none⟩) (Nat.le_refl _) x2).setCell (p := ⟨R, 3, none⟩) (Nat.le_refl _) x3).setCell (p := ⟨R, 4, none⟩) (Nat.le_refl _) x4
theorem cells5 {W : World} {R : Nat} {x0 x1 x2 x3 x4 : Value} (h : W.heap[R]? = some (.cells #[x0, x1, x2, x3, x4] 48)) :
    W.cell? ⟨R, 0, none⟩ = some x0 ∧ W.cell? ⟨R, 1, none⟩ = some x1 ∧ W.cell? ⟨R, 2, none⟩ = some x2 ∧ W.cell? ⟨R, 3, none⟩ = some x3 ∧ W.cell? ⟨R, 4, none⟩ = some x4 :=
  ⟨cell_of_block h 0 _ rfl, cell_of_block h 1 _ rfl, cell_of_block h 2 _ rfl, cell_of_block h 3 _ rfl, cell_of_block h 4 _ rfl⟩
theorem frozen5 {W : World} {R : Nat} {cs : Array Value} (h : W.heap[R]? = some (.cells cs 48)) :
    W.frozen? ⟨R, 0, none⟩ = false ∧ W.frozen? ⟨R, 1, none⟩ = false ∧ W.frozen? ⟨R, 2, none⟩ = false ∧ W.frozen? ⟨R, 3, none⟩ = false ∧ W.frozen? ⟨R, 4, none⟩ = false :=
  ⟨frozen_block h 0, frozen_block h 1, frozen_block h 2, frozen_block h 3, frozen_block h 4⟩
end Go.Proofs.Yteppgeiejknhoaa

