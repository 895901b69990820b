import Derived.Deep.RegionHeld3
import Derived.Test.YtckammgnmgkieaaGreatMQ15
namespace Go.Proofs.YtckammgnmgkieaaGreat
set_option maxRecDepth 20000
open Go.RowKit Go.Shelf
def allocs (w : World) (os : List Obj) : World := os.foldl World.alloc w
theorem qcT : ∀ (os : List Obj) (w : World), Below w.heap.size w (allocs w os)
 | [], w => qL0
 | x :: r, w => by
  have h1 := (Below.refl w.heap.size w).alloc (qN0) x
  exact h1.trans ((qcT r (w.alloc x)).mono (by simp))
theorem qaI : ∀ (os : List Obj) (w : World) (i : Nat) (h : i < os.length), (allocs w os).heap[w.heap.size + i]? = some os[i]
 | [], w, i, h => by simp at h
 | x :: r, w, 0, _ => ((qcT r (w.alloc x)).block w.heap.size (by simp)).trans (knew w x)
 | x :: r, w, i + 1, h => by
  have := qaI r (w.alloc x) i (by simpa using h)
  rw [World.size_alloc] at this
  rw [show w.heap.size + (i + 1) = w.heap.size + 1 + i by omega]
  exact this
theorem nm_lit' {W : World} {g : Nat} {l : List Value} {T : TypeId} {n : Nm} (h : W.heap[g]? = some (.cells l.toArray T)) (e : n.map strV = l) : NmAt W (.slice (some ⟨g, 0, none⟩) l.length l.length) n := nmAt_sl.2 (by rw [e]; exact qcR h)
end Go.Proofs.YtckammgnmgkieaaGreat
