/-
  Small facts on bytes, strings and slices of bytes that the call itself owns: used by all walks of this seat.
-/
import Derived.Test.YtckammgnmgkieaaGreatRows
import Derived.RangeFuncNested
import Derived.RangeFuncBound
import Derived.RangeFuncCalls
import Derived.RangeFuncLeaves
import Derived.RangeFuncBox
import Derived.Shelf.Abstract
import Derived.Shelf.RegionOpen
import Derived.WalkKit
import Derived.WalkSpells
import Derived.WalkLawsBesides
import Derived.OwnWalkIn
import Derived.TacticsInMore
import Derived.LoopNIn
import Derived.LoopIn
import Derived.Maps.AppendAt
import Derived.BigQuiet
import Derived.Lib.Hide
import Derived.Lib.BufferRead
namespace Go.Proofs.YtckammgnmgkieaaGreat
set_option maxRecDepth 20000
open Go.RowKit Go.Shelf

theorem ret_int {k : IntKind} {a b : Int} (h : a = b) : Ending.returned (.int k a) = .returned (.int k b) := by rw [h]
theorem ret_bool {a b : Bool} (h : a = b) : Ending.returned (.bool a) = .returned (.bool b) := by rw [h]
theorem toList_data (s : ByteArray) : s.toList = s.data.toList := ByteArray.toList_eq s
theorem isEmpty_true {s : ByteArray} (h : s.toList.isEmpty = true) : s.data.toList = [] := by
  rw [toList_data] at h; simpa using h
theorem isEmpty_false {s : ByteArray} (h : s.toList.isEmpty = false) : s.data.toList ≠ [] := by
  rw [toList_data] at h; intro e; rw [e] at h; simp at h
theorem drop_cons_get (s : ByteArray) (k : Nat) (h : k < s.size) : s.data.toList.drop k = s[k] :: s.data.toList.drop (k + 1) := by
  rw [List.drop_eq_getElem_cons (by simpa using h)]; rfl
theorem size_data (s : ByteArray) : s.data.toList.length = s.size := rfl

def bv (c : UInt8) : Value := .int .u8 (c.toNat : Int)
theorem cells_new (w : World) (l : List Value) (T : TypeId) : ∀ j u, l[j]? = some u → (w.alloc (.cells l.toArray T)).cell? ((⟨w.heap.size, 0, none⟩ : Addr).add j) = some u := by
  intro j u h
  have hn := World.alloc_heap_new w (.cells l.toArray T)
  have e : ((⟨w.heap.size, 0, none⟩ : Addr).add j) = ⟨w.heap.size, j, none⟩ := by unfold Addr.add; by_cases hj : j = 0 <;> simp [hj]
  rw [e]
  unfold World.cell?
  rw [hn]
  simpa using h

theorem grownBy_of_alloc {W w' : World} {o : Obj} {row : Option Nat} (h : (W.alloc o).grownBy w' row) : W.grownBy w' row :=
  ⟨h.os, h.tape, h.output, by have := h.size; simp at this; omega, fun k hk hne => by
    rw [h.block k (by simp; omega) hne]
    exact (World.grownBy_alloc W o none).block k hk (by simp)⟩

def OwnU8 (W : World) (base : Nat) (v : Value) (xs : List UInt8) : Prop := W.ownsRow base 5 1 v xs.length (xs.map bv)
theorem OwnU8.alloc {W : World} {base : Nat} {v : Value} {xs : List UInt8} (h : OwnU8 W base v xs) (o : Obj) : OwnU8 (W.alloc o) base v xs := World.ownsRow.alloc h o
theorem OwnU8.nil (W : World) (base : Nat) : OwnU8 W base (.slice none 0 0) [] := World.ownsRow_nil _ _ _ _
theorem OwnU8.base_le {W : World} {base : Nat} {v : Value} {xs : List UInt8} (h : OwnU8 W base v xs) : ∀ k, v.ownBlock = some k → base ≤ k := by
  intro k hk
  rcases h.2 with ⟨rfl, _⟩ | ⟨g, cap, cur, rfl, hb, _⟩
  · simp [Value.ownBlock] at hk
  · obtain rfl : g = k := by simpa [Value.ownBlock] using hk
    exact hb
theorem OwnU8.shape {W : World} {base : Nat} {v : Value} {xs : List UInt8} (h : OwnU8 W base v xs) : ∃ a n c, v = .slice a n c := by
  rcases h.2 with ⟨rfl, _⟩ | ⟨g, cap, cur, rfl, _⟩ <;> exact ⟨_, _, _, rfl⟩
def KeepB (b : Nat) (W W' : World) : Prop := W'.heap[b]? = W.heap[b]?
theorem KeepB.refl (b : Nat) (W : World) : KeepB b W W := rfl
theorem KeepB.trans {b : Nat} {A B C : World} (h : KeepB b A B) (h' : KeepB b B C) : KeepB b A C := Eq.trans h' h
theorem KeepB.cell {b : Nat} {A B : World} (h : KeepB b A B) {o : Nat} : B.cell? ⟨b, o, none⟩ = A.cell? ⟨b, o, none⟩ := World.cell?_of_block (a := ⟨b, o, none⟩) h
theorem KeepB.setCell {b c : Nat} (W : World) (v : Value) (hne : b ≠ c) : KeepB b W (W.setCell ⟨c, 0, none⟩ v) := by
  by_cases hb : b < W.heap.size
  · exact (grownBy_setCell' W c v).block b hb (by simpa using hne)
  · unfold KeepB
    have h1 : W.heap[b]? = none := Array.getElem?_eq_none (by omega)
    have h2 : (W.setCell ⟨c, 0, none⟩ v).heap.size = W.heap.size := by simp
    rw [h1, Array.getElem?_eq_none (by omega)]
theorem KeepB.alloc {b : Nat} (W : World) (o : Obj) (hb : b < W.heap.size) : KeepB b W (W.alloc o) := (World.grownBy_alloc W o none).block b hb (by simp)
theorem keepB_t {b : Nat} {A B C : World} (h : KeepB b A B) (h' : KeepB b B C) : KeepB b A C := h.trans h'
theorem keepB_b {b : Nat} {w : World} (hb : b < w.heap.size) : ∀ (W : World) (l : Nat) (o o' : Obj), w.heap.size ≤ l → W.heap[l]? = some o → o.isCells = false → o.isWalk = false → KeepB b W (W.putObj l o') := fun _ _ _ _ h1 _ _ _ =>
  World.putObj_heap_other (by omega)

def OutBox (B base : Nat) (xs : List UInt8) (W : World) : Prop := ∃ v, Boxed W B 99 v ∧ OwnU8 W base v xs
theorem OutBox.alloc {B base : Nat} {xs : List UInt8} {W : World} (h : OutBox B base xs W) (o : Obj) : OutBox B base xs (W.alloc o) := by
  obtain ⟨v, h1, h2⟩ := h; exact ⟨v, h1.alloc o, h2.alloc o⟩

theorem OwnU8.string {W : World} {base : Nat} {v : Value} {xs : List UInt8} (h : OwnU8 W base v xs) : (convert 99 9 v).run Tryz.prog W = .ok (.string ⟨xs.toArray⟩) W := by
  obtain ⟨h1, h2⟩ := h
  rcases h2 with ⟨rfl, hz⟩ | ⟨g, cap, cur, rfl, hb, hg, hc, hm, hsz, htk⟩
  · have : xs = [] := by simpa using hz
    subst this
    exact Lib.run_convert_nil_bytes W _ _ _ 0 Tryz.underlying99 Tryz.underlying5 Tryz.underlying9
  · refine run_convert_bytes_back W _ _ _ _ cap xs Tryz.underlying99 Tryz.underlying5 Tryz.underlying9 (Lib.bytes_of_row hg ?_)
    rw [Nat.mul_one] at htk
    rw [htk]; simp [Lib.byteCells, bv]

end Go.Proofs.YtckammgnmgkieaaGreat

