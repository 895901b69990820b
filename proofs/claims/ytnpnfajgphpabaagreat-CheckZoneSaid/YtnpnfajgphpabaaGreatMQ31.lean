import Derived.Lib.Hide
import Derived.Below
import Derived.RangeFuncNested
import Derived.RangeFuncBound
import Derived.RangeFuncCalls
import Derived.RangeFuncLeaves
import Derived.RangeFuncBox
import Derived.Shelf.Abstract
import Derived.Shelf.RegionOpen
import Derived.WalkKit
import Derived.WalkSpells
import Derived.WalkLawsBesides
import Derived.OwnWalkIn
import Derived.TacticsInMore
import Derived.LoopNIn
import Derived.LoopIn
import Derived.Maps.AppendAt
import Derived.BigQuiet
import Derived.Lib.BufferRead
import Derived.Test.YtnpnfajgphpabaaGreatRows
namespace Go.Proofs.YtnpnfajgphpabaaGreat
open Go.RowKit
theorem qB0 {a b c : World} (h : Below a.heap.size a b) (g : Below b.heap.size b c) : Below a.heap.size a c := h.trans (g.mono h.size)
theorem qN0 {n : Nat} : n ≤ n := Nat.le_refl n
theorem qL0 {n : Nat} {w : World} : Below n w w := Below.refl n w
theorem qH0 {p : Prop} (h : p) : RowKit.Hid p := h
end Go.Proofs.YtnpnfajgphpabaaGreat
namespace Go.Proofs.YtnpnfajgphpabaaGreat
set_option maxRecDepth 20000
open Go.RowKit Go.Shelf
theorem qaE {k : IntKind} {a b : Int} (h : a = b) : Ending.returned (.int k a) = .returned (.int k b) := by rw [h]
theorem qbU {a b : Bool} (h : a = b) : Ending.returned (.bool a) = .returned (.bool b) := by rw [h]
theorem qaL (s : ByteArray) : s.toList = s.data.toList := ByteArray.toList_eq s
theorem qgr {s : ByteArray} (h : s.toList.isEmpty = true) : s.data.toList = [] := by
 rw [qaL] at h; simpa using h
theorem qdf {s : ByteArray} (h : s.toList.isEmpty = false) : s.data.toList ≠ [] := by
 rw [qaL] at h; intro e; rw [e] at h; simp at h
theorem qbx (s : ByteArray) (k : Nat) (h : k < s.size) : s.data.toList.drop k = s[k] :: s.data.toList.drop (k + 1) := by
 rw [List.drop_eq_getElem_cons (by simpa using h)]; rfl
theorem qb3 (s : ByteArray) : s.data.toList.length = s.size := rfl
def bv (c : UInt8) : Value := .int .u8 (c.toNat : Int)
theorem qba (w : World) (l : List Value) (T : TypeId) : ∀ j u, l[j]? = some u → (w.alloc (.cells l.toArray T)).cell? ((⟨w.heap.size, 0, none⟩ : Addr).add j) = some u := by
 intro j u h
 have hn := World.alloc_heap_new w (.cells l.toArray T)
 have e : ((⟨w.heap.size, 0, none⟩ : Addr).add j) = ⟨w.heap.size, j, none⟩ := by unfold Addr.add; by_cases hj : j = 0 <;> simp [hj]
 rw [e]
 unfold World.cell?
 rw [hn]
 simpa using h
theorem qaY {W w' : World} {o : Obj} {row : Option Nat} (h : (W.alloc o).grownBy w' row) : W.grownBy w' row :=
 ⟨h.os, h.tape, h.output, by have := h.size; simp at this; omega, fun k hk hne => by
   rw [h.block k (by simp; omega) hne]
   exact (World.grownBy_alloc W o none).block k hk (by simp)⟩
def OwnU8 (W : World) (base : Nat) (v : Value) (xs : List UInt8) : Prop := W.ownsRow base 5 1 v xs.length (xs.map bv)
theorem OwnU8.alloc {W : World} {base : Nat} {v : Value} {xs : List UInt8} (h : OwnU8 W base v xs) (o : Obj) : OwnU8 (W.alloc o) base v xs := World.ownsRow.alloc h o
theorem OwnU8.nil (W : World) (base : Nat) : OwnU8 W base (.slice none 0 0) [] := World.ownsRow_nil _ _ _ _
theorem OwnU8.base_le {W : World} {base : Nat} {v : Value} {xs : List UInt8} (h : OwnU8 W base v xs) : ∀ k, v.ownBlock = some k → base ≤ k := by
 intro k hk
 rcases h.2 with ⟨rfl, _⟩ | ⟨g, cap, cur, rfl, hb, _⟩
 ·simp [Value.ownBlock] at hk
 ·obtain rfl : g = k := by simpa [Value.ownBlock] using hk
  exact hb
theorem OwnU8.shape {W : World} {base : Nat} {v : Value} {xs : List UInt8} (h : OwnU8 W base v xs) : ∃ a n c, v = .slice a n c := by
 rcases h.2 with ⟨rfl, _⟩ | ⟨g, cap, cur, rfl, _⟩ <;> exact ⟨_, _, _, rfl⟩
def KeepB (b : Nat) (W W' : World) : Prop := W'.heap[b]? = W.heap[b]?
theorem KeepB.refl (b : Nat) (W : World) : KeepB b W W := rfl
theorem KeepB.trans {b : Nat} {A B C : World} (h : KeepB b A B) (h' : KeepB b B C) : KeepB b A C := Eq.trans h' h
theorem KeepB.cell {b : Nat} {A B : World} (h : KeepB b A B) {o : Nat} : B.cell? ⟨b, o, none⟩ = A.cell? ⟨b, o, none⟩ := World.cell?_of_block (a := ⟨b, o, none⟩) h
theorem KeepB.setCell {b c : Nat} (W : World) (v : Value) (hne : b ≠ c) : KeepB b W (W.setCell ⟨c, 0, none⟩ v) := by
 by_cases hb : b < W.heap.size
 ·exact (grownBy_setCell' W c v).block b hb (by simpa using hne)
 ·unfold KeepB
  have h1 : W.heap[b]? = none := Array.getElem?_eq_none (by omega)
  have h2 : (W.setCell ⟨c, 0, none⟩ v).heap.size = W.heap.size := by simp
  rw [h1, Array.getElem?_eq_none (by omega)]
theorem KeepB.alloc {b : Nat} (W : World) (o : Obj) (hb : b < W.heap.size) : KeepB b W (W.alloc o) := (World.grownBy_alloc W o none).block b hb (by simp)
theorem qdP {b : Nat} {A B C : World} (h : KeepB b A B) (h' : KeepB b B C) : KeepB b A C := h.trans h'
theorem qci {b : Nat} {w : World} (hb : b < w.heap.size) : ∀ (W : World) (l : Nat) (o o' : Obj), w.heap.size ≤ l → W.heap[l]? = some o → o.isCells = false → o.isWalk = false → KeepB b W (W.putObj l o') := fun _ _ _ _ h1 _ _ _ =>
 World.putObj_heap_other (by omega)
def OutBox (B base : Nat) (xs : List UInt8) (W : World) : Prop := ∃ v, Boxed W B 42 v ∧ OwnU8 W base v xs
theorem OutBox.alloc {B base : Nat} {xs : List UInt8} {W : World} (h : OutBox B base xs W) (o : Obj) : OutBox B base xs (W.alloc o) := by
 obtain ⟨v, h1, h2⟩ := h; exact ⟨v, h1.alloc o, h2.alloc o⟩
theorem OwnU8.string {W : World} {base : Nat} {v : Value} {xs : List UInt8} (h : OwnU8 W base v xs) : (convert 42 9 v).run Tryz.prog W = .ok (.string ⟨xs.toArray⟩) W := by
 obtain ⟨h1, h2⟩ := h
 rcases h2 with ⟨rfl, hz⟩ | ⟨g, cap, cur, rfl, hb, hg, hc, hm, hsz, htk⟩
 ·have : xs = [] := by simpa using hz
  subst this
  exact Lib.run_convert_nil_bytes W _ _ _ 0 Tryz.underlying42 Tryz.underlying5 Tryz.underlying9
 ·refine run_convert_bytes_back W _ _ _ _ cap xs Tryz.underlying42 Tryz.underlying5 Tryz.underlying9 (Lib.bytes_of_row hg ?_)
  rw [Nat.mul_one] at htk
  rw [htk]; simp [Lib.byteCells, bv]
def AllOrd (f : List Nat → Prop) : List (List Nat) → Prop
 | [] => True
 | L :: r => f L ∧ AllOrd f r
theorem AllOrd.mem {f : List Nat → Prop} : ∀ {l : List (List Nat)}, AllOrd f l → ∀ L ∈ l, f L
 | [], _, _, h => by cases h
 | _ :: _, h, L, hL => by
  rcases List.mem_cons.1 hL with rfl | hL
  ·exact h.1
  ·exact AllOrd.mem h.2 L hL
theorem qae : Tryz.prog.follows .mixedOrders = true := by kernel_rfl
end Go.Proofs.YtnpnfajgphpabaaGreat
namespace Go.Proofs.YtnpnfajgphpabaaGreat
set_option maxRecDepth 20000
set_option maxHeartbeats 400000
open Go.RowKit Go.Shelf
def qaS (l : List UInt8) : Int := if l = [] then 8 else if 63 < l.length then 3 else 0
def smallU (c : UInt8) : UInt8 := if 65 ≤ c.toNat ∧ c.toNat ≤ 90 then c + 32 else c
theorem qfL (c : UInt8) (h1 : 65 ≤ (c.toNat : Int)) (h2 : (c.toNat : Int) ≤ 90) : (c.toNat : Int) + 97 - 65 = ((smallU c).toNat : Int) := by
 unfold smallU; rw [if_pos ⟨by omega, by omega⟩, UInt8.toNat_add]; simp; omega
theorem qiU (c : UInt8) (h : ¬ (65 ≤ (c.toNat : Int) ∧ (c.toNat : Int) ≤ 90)) : (c.toNat : Int) = ((smallU c).toNat : Int) := by
 unfold smallU; rw [if_neg (by omega)]
theorem qhB (c : UInt8) (w : World) :
 Calls Tryz.prog 92 #[.int .u8 (c.toNat : Int)] w fun e w' => e = .returned (.int .u8 ((smallU c).toNat : Int)) ∧ w = w' := by
 have h1 : (c.toNat : Int) ≤ 255 := by have := c.toNat_lt; omega
 by_cases h : (65 : Int) ≤ (c.toNat : Int) ∧ (c.toNat : Int) ≤ 90
 ·have ha := qfL c h.1 h.2
  have H := qH0 ha; clear ha
  obtain ⟨h2, h3⟩ := h
  go_enter Tryz.func92, Tryz.ntmps92
  go_wp2
  go_ret
  exact ⟨qaE H.out, rfl⟩
 ·have ha := qiU c h
  have H := qH0 ha; clear ha
  by_cases h2 : (65 : Int) ≤ (c.toNat : Int)
  all_goals
   go_enter Tryz.func92, Tryz.ntmps92
   go_wp2
   try (exfalso; omega)
   try (go_ret; exact ⟨qaE H.out, rfl⟩)
section
attribute [local go_sem] Oper.semAt_some
end
end Go.Proofs.YtnpnfajgphpabaaGreat
