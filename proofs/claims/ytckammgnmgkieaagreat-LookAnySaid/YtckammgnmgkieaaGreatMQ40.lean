import Derived.Lib.Hide
import Derived.Below
import Derived.RangeFuncNested
import Derived.RangeFuncBound
import Derived.RangeFuncCalls
import Derived.RangeFuncLeaves
import Derived.RangeFuncBox
import Derived.Shelf.Abstract
import Derived.Shelf.RegionOpen
import Derived.WalkKit
import Derived.WalkSpells
import Derived.WalkLawsBesides
import Derived.OwnWalkIn
import Derived.TacticsInMore
import Derived.LoopNIn
import Derived.LoopIn
import Derived.Maps.AppendAt
import Derived.BigQuiet
import Derived.Lib.BufferRead
import Derived.Test.YtckammgnmgkieaaGreatRows
namespace Go.Proofs.YtckammgnmgkieaaGreat
open Go.RowKit
theorem qB0 {a b c : World} (h : Below a.heap.size a b) (g : Below b.heap.size b c) : Below a.heap.size a c := h.trans (g.mono h.size)
theorem qN0 {n : Nat} : n ≤ n := Nat.le_refl n
theorem qL0 {n : Nat} {w : World} : Below n w w := Below.refl n w
theorem qH0 {p : Prop} (h : p) : RowKit.Hid p := h
end Go.Proofs.YtckammgnmgkieaaGreat
namespace Go.Proofs.YtckammgnmgkieaaGreat
set_option maxRecDepth 20000
open Go.RowKit Go.Shelf
theorem qaE {k : IntKind} {a b : Int} (h : a = b) : Ending.returned (.int k a) = .returned (.int k b) := by rw [h]
theorem qbs {a b : Bool} (h : a = b) : Ending.returned (.bool a) = .returned (.bool b) := by rw [h]
theorem qa4 (s : ByteArray) : s.toList = s.data.toList := ByteArray.toList_eq s
theorem qeh {s : ByteArray} (h : s.toList.isEmpty = true) : s.data.toList = [] := by
 rw [qa4] at h; simpa using h
theorem qbE {s : ByteArray} (h : s.toList.isEmpty = false) : s.data.toList ≠ [] := by
 rw [qa4] at h; intro e; rw [e] at h; simp at h
theorem qbl (s : ByteArray) (k : Nat) (h : k < s.size) : s.data.toList.take (k + 1) = s.data.toList.take k ++ [s[k]] := by
 rw [List.take_succ_eq_append_getElem (by simpa using h)]; rfl
theorem qbF (s : ByteArray) (k : Nat) (h : k < s.size) : s.data.toList.drop k = s[k] :: s.data.toList.drop (k + 1) := by
 rw [List.drop_eq_getElem_cons (by simpa using h)]; rfl
theorem qbu (s : ByteArray) : s.data.toList.length = s.size := rfl
def bv (c : UInt8) : Value := .int .u8 (c.toNat : Int)
theorem bv_one (l : List UInt8) : ∀ u ∈ l.map bv, u.oneCell' = true := by
 intro u hu; obtain ⟨c, _, rfl⟩ := List.mem_map.1 hu; rfl
theorem qbc (w : World) (l : List Value) (T : TypeId) : ∀ j u, l[j]? = some u → (w.alloc (.cells l.toArray T)).cell? ((⟨w.heap.size, 0, none⟩ : Addr).add j) = some u := by
 intro j u h
 have hn := World.alloc_heap_new w (.cells l.toArray T)
 have e : ((⟨w.heap.size, 0, none⟩ : Addr).add j) = ⟨w.heap.size, j, none⟩ := by unfold Addr.add; by_cases hj : j = 0 <;> simp [hj]
 rw [e]
 unfold World.cell?
 rw [hn]
 simpa using h
theorem qeE : (Tryz.prog.info? 5).map (fun i => (i.zero, i.size, i.bytes)) = some (some (.int .u8 0), 1, 1) := by kernel_rfl
theorem qaS {W w' : World} {o : Obj} {row : Option Nat} (h : (W.alloc o).grownBy w' row) : W.grownBy w' row :=
 ⟨h.os, h.tape, h.output, by have := h.size; simp at this; omega, fun k hk hne => by
   rw [h.block k (by simp; omega) hne]
   exact (World.grownBy_alloc W o none).block k hk (by simp)⟩
def OwnU8 (W : World) (base : Nat) (v : Value) (xs : List UInt8) : Prop := W.ownsRow base 5 1 v xs.length (xs.map bv)
theorem OwnU8.alloc {W : World} {base : Nat} {v : Value} {xs : List UInt8} (h : OwnU8 W base v xs) (o : Obj) : OwnU8 (W.alloc o) base v xs := World.ownsRow.alloc h o
theorem OwnU8.nil (W : World) (base : Nat) : OwnU8 W base (.slice none 0 0) [] := World.ownsRow_nil _ _ _ _
theorem OwnU8.base_le {W : World} {base : Nat} {v : Value} {xs : List UInt8} (h : OwnU8 W base v xs) : ∀ k, v.ownBlock = some k → base ≤ k := by
 intro k hk
 rcases h.2 with ⟨rfl, _⟩ | ⟨g, cap, cur, rfl, hb, _⟩
 ·simp [Value.ownBlock] at hk
 ·obtain rfl : g = k := by simpa [Value.ownBlock] using hk
  exact hb
theorem OwnU8.shape {W : World} {base : Nat} {v : Value} {xs : List UInt8} (h : OwnU8 W base v xs) : ∃ a n c, v = .slice a n c := by
 rcases h.2 with ⟨rfl, _⟩ | ⟨g, cap, cur, rfl, _⟩ <;> exact ⟨_, _, _, rfl⟩
def qgt (base : Nat) (xs : List UInt8) (w : World) (v : Value) (e : Ending) (w' : World) : Prop := ∃ v', e = .returned v' ∧ OwnU8 w' base v' xs ∧ w.grownBy w' v.ownBlock
theorem qcy {ops : Array Oper} {rest : List Oper} {o : Oper} {a : Act} {Q : Exit → Act → World → Prop} (W : World) (hgd : o.guard = none) (s x : Operand)
 (ho : o.op = .call { callee := .builtin .append, args := #[s, x], argTypes := #[99, 99] })
 (base : Nat) (v : Value) (xs : List UInt8) (hs : a.eval s = v) (hown : OwnU8 W base v xs)
 (cells : List Value) (news : List UInt8) (hcells : cells = news.map bv) (m c : Nat) (hx : a.eval x = .slice (some ⟨W.heap.size, 0, none⟩) m c) (hm : m = news.length)
 (hbase : base ≤ W.heap.size) (hk : xs.length + news.length ≤ 140737488355328)
 (h : ∀ v' w', OwnU8 w' base v' (xs ++ news) → W.grownBy w' v.ownBlock → wpList Tryz.prog ops Q rest (a.put o.dst v') w') :
 wpList Tryz.prog ops Q (o :: rest) a (W.alloc (.cells cells.toArray 5)) := by
 subst hcells hm
 obtain ⟨i0, hi, hz0, hz1, hz2⟩ := info_parts qeE
 refine wpList_append_own _ hgd s x 99 ho base 5 i0 (.int .u8 0) 1 1 Tryz.underlying99 hi hz0 hz1 hz2 rfl (by decide) v xs.length (xs.map bv) hs (hown.alloc _) ⟨W.heap.size, 0, none⟩ news.length c (news.map bv) hx (by simp) (qbc W _ _) (bv_one _) (by unfold maxLen; omega) (by omega) (by simp; omega) ?_
 intro v' w' h1 h2 _
 refine h v' w' ?_ (qaS h2)
 unfold OwnU8
 rw [List.length_append, List.map_append]
 exact h1
theorem qfP {F : Fence} {n : Nat} {ops : Array Oper} {rest : List Oper} {o : Oper} {a : Act} {Q : Exit → Act → World → Prop} (W : World) (hgd : o.guard = none) (s x : Operand)
 (ho : o.op = .call { callee := .builtin .append, args := #[s, x], argTypes := #[99, 99] })
 (base : Nat) (v : Value) (xs : List UInt8) (hs : a.eval s = v) (hown : OwnU8 W base v xs)
 (cells : List Value) (news : List UInt8) (hcells : cells = news.map bv) (m c : Nat) (hx : a.eval x = .slice (some ⟨W.heap.size, 0, none⟩) m c) (hm : m = news.length)
 (hbase : base ≤ W.heap.size) (hk : xs.length + news.length ≤ 140737488355328)
 (h : ∀ v' w', OwnU8 w' base v' (xs ++ news) → W.grownBy w' v.ownBlock → wpListIn F n Tryz.prog ops Q rest (a.put o.dst v') w') :
 wpListIn F n Tryz.prog ops Q (o :: rest) a (W.alloc (.cells cells.toArray 5)) := by
 subst hcells hm
 obtain ⟨i0, hi, hz0, hz1, hz2⟩ := info_parts qeE
 refine wpListIn_append_own _ hgd s x 99 ho base 5 i0 (.int .u8 0) 1 1 Tryz.underlying99 hi hz0 hz1 hz2 rfl (by decide) v xs.length (xs.map bv) hs (hown.alloc _) ⟨W.heap.size, 0, none⟩ news.length c (news.map bv) hx (by simp) (qbc W _ _) (bv_one _) (by unfold maxLen; omega) (by omega) (by simp; omega) ?_
 intro v' w' h1 h2 _
 refine h v' w' ?_ (qaS h2)
 unfold OwnU8
 rw [List.length_append, List.map_append]
 exact h1
def KeepB (b : Nat) (W W' : World) : Prop := W'.heap[b]? = W.heap[b]?
theorem KeepB.refl (b : Nat) (W : World) : KeepB b W W := rfl
theorem KeepB.trans {b : Nat} {A B C : World} (h : KeepB b A B) (h' : KeepB b B C) : KeepB b A C := Eq.trans h' h
theorem KeepB.cell {b : Nat} {A B : World} (h : KeepB b A B) {o : Nat} : B.cell? ⟨b, o, none⟩ = A.cell? ⟨b, o, none⟩ := World.cell?_of_block (a := ⟨b, o, none⟩) h
theorem KeepB.of_grownBy {b : Nat} {A B : World} {row : Option Nat} (h : A.grownBy B row) (hb : b < A.heap.size) (hne : some b ≠ row) : KeepB b A B := h.block b hb hne
theorem KeepB.setCell {b c : Nat} (W : World) (v : Value) (hne : b ≠ c) : KeepB b W (W.setCell ⟨c, 0, none⟩ v) := by
 by_cases hb : b < W.heap.size
 ·exact (grownBy_setCell' W c v).block b hb (by simpa using hne)
 ·unfold KeepB
  have h1 : W.heap[b]? = none := Array.getElem?_eq_none (by omega)
  have h2 : (W.setCell ⟨c, 0, none⟩ v).heap.size = W.heap.size := by simp
  rw [h1, Array.getElem?_eq_none (by omega)]
theorem KeepB.alloc {b : Nat} (W : World) (o : Obj) (hb : b < W.heap.size) : KeepB b W (W.alloc o) := (World.grownBy_alloc W o none).block b hb (by simp)
theorem qdC {b : Nat} {A B : World} {t : TypeId} {v : Value} (h : KeepB b A B) (hv : Boxed A b t v) : Boxed B b t v := Eq.trans h hv
theorem qgc {b : Nat} {A B C : World} (h : KeepB b A B) (h' : KeepB b B C) : KeepB b A C := h.trans h'
theorem qdo {b : Nat} {w : World} (hb : b < w.heap.size) : ∀ (W : World) (l : Nat) (o o' : Obj), w.heap.size ≤ l → W.heap[l]? = some o → o.isCells = false → o.isWalk = false → KeepB b W (W.putObj l o') := fun _ _ _ _ h1 _ _ _ =>
 World.putObj_heap_other (by omega)
def OutBox (B base : Nat) (xs : List UInt8) (W : World) : Prop := ∃ v, Boxed W B 99 v ∧ OwnU8 W base v xs
theorem qj0 {α : Type} (B base : Nat) (f : α → List UInt8) : Own (fun pre W => OutBox B base (f pre) W) := fun s W W' row hs hg hr => by
 obtain ⟨v, h1, h2⟩ := hs
 obtain ⟨v', g1, g2, _⟩ := holdsRow_own base B 99 5 1 (fun s : α => (f s).length) (fun s => (f s).map bv) (fun _ _ => True) s W W' row ⟨v, h1, h2, trivial⟩ hg hr
 exact ⟨v', g1, g2⟩
theorem OutBox.alloc {B base : Nat} {xs : List UInt8} {W : World} (h : OutBox B base xs W) (o : Obj) : OutBox B base xs (W.alloc o) := by
 obtain ⟨v, h1, h2⟩ := h; exact ⟨v, h1.alloc o, h2.alloc o⟩
theorem qg9 {W w1 : World} {B base : Nat} {v v' : Value} {xs ys : List UInt8} (hv : Boxed W B 99 v) (hown : OwnU8 W base v xs) (hbB : base ≤ B) (hown' : OwnU8 w1 base v' ys) (hg : W.grownBy w1 v.ownBlock) :
 Boxed w1 B 99 v ∧ OutBox B base ys (w1.setCell ⟨B, 0, none⟩ v') ∧ KeepsOthers W (w1.setCell ⟨B, 0, none⟩ v') ∧ Below base W (w1.setCell ⟨B, 0, none⟩ v') ∧ (∀ b, b < W.heap.size → b ≠ B → (∀ u, Boxed W b 9 u → KeepB b W (w1.setCell ⟨B, 0, none⟩ v'))) := by
 have hv1 : Boxed w1 B 99 v := hv.kept hg (hv.not_row (by decide) hown)
 refine ⟨hv1, ⟨v', hv1.set v', World.ownsRow.kept hown' (grownBy_setCell' w1 B v') (.inr (hv1.not_row (by decide) hown').symm)⟩, ?_, ?_, ?_⟩
 ·refine (KeepsOthers.of_grownBy hg fun j o ej hj => ?_).trans (KeepsOthers.setCell _ _ _)
  rcases hown.2 with ⟨rfl, _⟩ | ⟨g, cap, cur, rfl, _, hgb, _⟩
  ·simp [Value.ownBlock] at ej
  ·obtain rfl : g = j := by simpa [Value.ownBlock] using ej
   rw [hgb] at hj; cases hj; rfl
 ·have hle : base ≤ W.heap.size := Nat.le_trans hbB (Nat.le_of_lt hv.lt)
  exact ((Below.refl base W).grown hg hle hown.base_le).setCell (p := ⟨B, 0, none⟩) hbB v'
 ·intro b hb hne u hu
  exact (KeepB.of_grownBy hg hb (hu.not_row (by decide) hown)).trans (KeepB.setCell _ _ hne)
theorem OwnU8.string {W : World} {base : Nat} {v : Value} {xs : List UInt8} (h : OwnU8 W base v xs) : (convert 99 9 v).run Tryz.prog W = .ok (.string ⟨xs.toArray⟩) W := by
 obtain ⟨h1, h2⟩ := h
 rcases h2 with ⟨rfl, hz⟩ | ⟨g, cap, cur, rfl, hb, hg, hc, hm, hsz, htk⟩
 ·have : xs = [] := by simpa using hz
  subst this
  exact Lib.run_convert_nil_bytes W _ _ _ 0 Tryz.underlying99 Tryz.underlying5 Tryz.underlying9
 ·refine run_convert_bytes_back W _ _ _ _ cap xs Tryz.underlying99 Tryz.underlying5 Tryz.underlying9 (Lib.bytes_of_row hg ?_)
  rw [Nat.mul_one] at htk
  rw [htk]; simp [Lib.byteCells, bv]
def ords (ops : Array Oper) : Nat → Array Bool → List (List Nat)
 | 0, _ => [[]]
 | f + 1, listed =>
  match Region.ready .any ops listed with
  | [] => [[]]
  | r :: rs => (r :: rs).flatMap fun i => (ords ops f (listed.setIfInBounds i true)).map (i :: ·)
theorem qhl (ops : Array Oper) : ∀ (fuel t : Nat) (listed : Array Bool) (acc : List Nat), ∃ L ∈ ords ops fuel listed, Region.linearise.go .any ops fuel t listed acc = acc.reverse ++ L := by
 intro fuel
 induction fuel with
 | zero => intro t listed acc; exact ⟨[], by simp [ords], by simp [Region.linearise.go]⟩
 | succ fuel ih =>
  intro t listed acc
  simp only [Region.linearise.go]
  change ∃ L ∈ ords ops (fuel + 1) listed, (match (Region.ready .any ops listed)[t % (Region.ready .any ops listed).length]? with
   | some i => Region.linearise.go .any ops fuel (t / (Region.ready .any ops listed).length) (listed.setIfInBounds i true) (i :: acc)
   | none => acc.reverse) = acc.reverse ++ L
  cases hi : (Region.ready .any ops listed)[t % (Region.ready .any ops listed).length]? with
  | none =>
   have hnil : Region.ready .any ops listed = [] := by
    cases hr : Region.ready .any ops listed with
    | nil => rfl
    | cons x xs =>
     rw [hr] at hi
     have hlt : t % (x :: xs).length < (x :: xs).length := Nat.mod_lt _ (by simp)
     rw [List.getElem?_eq_getElem hlt] at hi
     cases hi
   exact ⟨[], by simp [ords, hnil], by simp⟩
  | some i =>
   have hmem : i ∈ Region.ready .any ops listed := List.mem_of_getElem? hi
   obtain ⟨L, hL, he⟩ := ih (t / (Region.ready .any ops listed).length) (listed.setIfInBounds i true) (i :: acc)
   refine ⟨i :: L, ?_, by simp only [he]; simp⟩
   cases hr : Region.ready .any ops listed with
   | nil => rw [hr] at hmem; cases hmem
   | cons x xs =>
    rw [hr] at hmem
    simp only [ords, hr]
    exact List.mem_flatMap.2 ⟨i, hmem, List.mem_map.2 ⟨L, hL, rfl⟩⟩
theorem qfS {F : Fence} {n : Nat} {P : Program} {ops : Array Oper} {Q : Exit → Act → World → Prop} : ∀ (L : List Nat) (a : Act) (w : World),
 wpListIn F n P ops Q (L.filterMap fun i => ops[i]?) a w → wpOpsIn F n P ops Q L a w := by
 intro L
 induction L with
 | nil => intro a w h; exact h
 | cons i L ih =>
  intro a w h
  cases ho : ops[i]? with
  | none =>
   rw [List.filterMap_cons, ho] at h
   simp only [wpOpsIn, ho]
   exact ih a w h
  | some o =>
   rw [List.filterMap_cons, ho] at h
   simp only [wpOpsIn, ho]
   simp only [wpListIn] at h
   split
   ·rename_i hw
    rw [if_pos hw] at h
    exact Oper.wpIn_mono (fun a w h => ih a w h) h
   ·rename_i hw
    rw [if_neg hw] at h
    exact ⟨h.1, ih _ _ h.2⟩
def AllOrd (f : List Nat → Prop) : List (List Nat) → Prop
 | [] => True
 | L :: r => f L ∧ AllOrd f r
theorem AllOrd.mem {f : List Nat → Prop} : ∀ {l : List (List Nat)}, AllOrd f l → ∀ L ∈ l, f L
 | [], _, _, h => by cases h
 | _ :: _, h, L, hL => by
  rcases List.mem_cons.1 hL with rfl | hL
  ·exact h.1
  ·exact AllOrd.mem h.2 L hL
theorem qem {F : Fence} {n : Nat} {P : Program} {id : Nat} {ops : Array Oper} {Q : Exit → Act → World → Prop} {a : Act} {w : World} (os : List (List Nat))
 (hm : P.follows .mixedOrders = true) (hos : ords ops ops.size (Array.replicate ops.size false) = os)
 (h : AllOrd (fun L => wpListIn F n P ops Q (L.filterMap fun i => ops[i]?) a w.drew) os) : (Code.region id ops true).wpIn F n P Q a w :=
 wpIn_region_draw fun t => by
  simp only [Region.schedule, hm, Bool.true_or, if_true, Region.linearise]
  obtain ⟨L, hL, he⟩ := qhl ops ops.size t (Array.replicate ops.size false) []
  rw [he, List.reverse_nil, List.nil_append]
  rw [hos] at hL
  exact qfS L a _ (h.mem L hL)
theorem qae : Tryz.prog.follows .mixedOrders = true := by kernel_rfl
end Go.Proofs.YtckammgnmgkieaaGreat
namespace Go.Proofs.YtckammgnmgkieaaGreat
set_option maxRecDepth 20000
open Go.RowKit Go.Shelf
structure ElemT (T S : TypeId) (bytes : Nat) : Prop where
 ht : Tryz.prog.underlying S = some (.slice T)
 info : ∃ i z, Tryz.prog.info? T = some i ∧ i.zero = some z ∧ i.size = 1 ∧ i.bytes = bytes ∧ z.cells.size = 1
def OwnG {α : Type} (T : TypeId) (enc : α → Value) (W : World) (base : Nat) (v : Value) (xs : List α) : Prop := W.ownsRow base T 1 v xs.length (xs.map enc)
section
variable {α : Type} {T S : TypeId} {enc : α → Value}
theorem OwnG.alloc {W : World} {base : Nat} {v : Value} {xs : List α} (h : OwnG T enc W base v xs) (o : Obj) : OwnG T enc (W.alloc o) base v xs := World.ownsRow.alloc h o
theorem OwnG.nil (W : World) (base : Nat) : OwnG T enc W base (.slice none 0 0) [] := World.ownsRow_nil _ _ _ _
theorem OwnG.base_le {W : World} {base : Nat} {v : Value} {xs : List α} (h : OwnG T enc W base v xs) : ∀ k, v.ownBlock = some k → base ≤ k := by
 intro k hk
 rcases h.2 with ⟨rfl, _⟩ | ⟨g, cap, cur, rfl, hb, _⟩
 ·simp [Value.ownBlock] at hk
 ·obtain rfl : g = k := by simpa [Value.ownBlock] using hk
  exact hb
theorem OwnG.shape {W : World} {base : Nat} {v : Value} {xs : List α} (h : OwnG T enc W base v xs) : ∃ a c, v = .slice a xs.length c := by
 rcases h.2 with ⟨rfl, h0⟩ | ⟨g, cap, cur, rfl, _⟩
 ·exact ⟨none, 0, by rw [h0]⟩
 ·exact ⟨_, _, rfl⟩
theorem OwnG.kept {W W' : World} {row : Option Nat} {base : Nat} {v : Value} {xs : List α} (h : OwnG T enc W base v xs) (hg : W.grownBy W' row) (hne : v.ownBlock = none ∨ v.ownBlock ≠ row) : OwnG T enc W' base v xs := World.ownsRow.kept h hg hne
theorem OwnG.lt {W : World} {base : Nat} {v : Value} {xs : List α} (h : OwnG T enc W base v xs) : ∀ k, v.ownBlock = some k → k < W.heap.size := by
 intro k hk
 rcases h.2 with ⟨rfl, _⟩ | ⟨g, cap, cur, rfl, hb, hg, _⟩
 ·simp [Value.ownBlock] at hk
 ·obtain rfl : g = k := by simpa [Value.ownBlock] using hk
  exact (Array.getElem?_eq_some_iff.1 hg).1
theorem OwnG.cells {W : World} {base : Nat} {a : Option Addr} {n c : Nat} {xs : List α} (h : OwnG T enc W base (.slice a n c) xs) (hne : xs ≠ []) :
 ∃ g, a = some ⟨g, 0, none⟩ ∧ base ≤ g ∧ g < W.heap.size ∧ ∀ j (hj : j < xs.length), W.cell? ⟨g, j, none⟩ = some (enc xs[j]) := by
 obtain ⟨_, h2⟩ := h
 rcases h2 with ⟨e, h0⟩ | ⟨g, cap, cur, e, hb, hg, hc, hm, hsz, htk⟩
 ·exact absurd (List.eq_nil_of_length_eq_zero h0) hne
 ·cases e
  refine ⟨g, rfl, hb, (Array.getElem?_eq_some_iff.1 hg).1, fun j hj => ?_⟩
  have h3 : cur.toList[j]? = some (enc xs[j]) := by
   have : (cur.toList.take (xs.length * 1))[j]? = some (enc xs[j]) := by rw [htk]; simp [hj]
   rw [List.getElem?_take] at this
   rw [if_pos (by omega)] at this
   exact this
  simp only [World.cell?, hg]
  simpa using h3
theorem OwnG.weaken {W : World} {base b2 : Nat} {v : Value} {xs : List α} (h : OwnG T enc W base v xs) (hb : b2 ≤ base) : OwnG T enc W b2 v xs := by
 refine ⟨h.1, ?_⟩
 rcases h.2 with hn | ⟨g, cap, cur, e, hg, rest⟩
 ·exact .inl hn
 ·exact .inr ⟨g, cap, cur, e, by omega, rest⟩
theorem OwnG.ne_of {W : World} {base : Nat} {v : Value} {xs : List α} (h : OwnG T enc W base v xs) {D : Nat} {o : Obj} (hD : W.heap[D]? = some o) (ho : o.isCells = false) : some D ≠ v.ownBlock := by
 rcases h.2 with ⟨rfl, _⟩ | ⟨g, cap, cur, rfl, _, hg, _⟩
 ·simp [Value.ownBlock]
 ·intro e
  obtain rfl : D = g := by simpa [Value.ownBlock] using e
  rw [hg] at hD; cases hD; cases ho
theorem OwnG.putObj {W : World} {base : Nat} {v : Value} {xs : List α} (h : OwnG T enc W base v xs) {l : Nat} {o : Obj} (o' : Obj) (hl : W.heap[l]? = some o) (ho : o.isCells = false) : OwnG T enc (W.putObj l o') base v xs := ownsRow_putObj h o' hl ho
theorem qcM {ops : Array Oper} {rest : List Oper} {o : Oper} {a : Act} {Q : Exit → Act → World → Prop} (W : World) (hgd : o.guard = none) (s x : Operand) {bytes : Nat} (hE : ElemT T S bytes)
 (ho : o.op = .call { callee := .builtin .append, args := #[s, x], argTypes := #[S, S] }) (hone : ∀ x : α, (enc x).oneCell' = true)
 (base : Nat) (v : Value) (xs : List α) (hs : a.eval s = v) (hown : OwnG T enc W base v xs)
 (cells : List Value) (news : List α) (hcells : cells = news.map enc) (m c : Nat) (hx : a.eval x = .slice (some ⟨W.heap.size, 0, none⟩) m c) (hm : m = news.length)
 (hbase : base ≤ W.heap.size) (hk : xs.length + news.length ≤ maxLen) (hk2 : (xs.length + news.length) * bytes ≤ 140737488355328)
 (h : ∀ v' w', OwnG T enc w' base v' (xs ++ news) → W.grownBy w' v.ownBlock → wpList Tryz.prog ops Q rest (a.put o.dst v') w') :
 wpList Tryz.prog ops Q (o :: rest) a (W.alloc (.cells cells.toArray T)) := by
 subst hcells hm
 obtain ⟨ht, i, z, hi, hz, hz1, hz2, hzc⟩ := hE
 refine wpList_append_own _ hgd s x S ho base T i z 1 bytes ht hi hz hz1 hz2 hzc (by decide) v xs.length (xs.map enc) hs (hown.alloc _) ⟨W.heap.size, 0, none⟩ news.length c (news.map enc) hx (by simp) (qbc W _ _) (by intro u hu; obtain ⟨y, _, rfl⟩ := List.mem_map.1 hu; exact hone y) hk hk2 (by simp; omega) ?_
 intro v' w' h1 h2 _
 refine h v' w' ?_ (qaS h2)
 unfold OwnG
 rw [List.length_append, List.map_append]
 exact h1
def GBox (T S : TypeId) (enc : α → Value) (B base : Nat) (xs : List α) (W : World) : Prop := ∃ v, Boxed W B S v ∧ OwnG T enc W base v xs
theorem qmg {β : Type} (B base : Nat) (f : β → List α) : Own (fun pre W => GBox T S enc B base (f pre) W) := fun s W W' row hs hg hr => by
 obtain ⟨v, h1, h2⟩ := hs
 obtain ⟨v', g1, g2, _⟩ := holdsRow_own base B S T 1 (fun s : β => (f s).length) (fun s => (f s).map enc) (fun _ _ => True) s W W' row ⟨v, h1, h2, trivial⟩ hg hr
 exact ⟨v', g1, g2⟩
theorem GBox.alloc {B base : Nat} {xs : List α} {W : World} (h : GBox T S enc B base xs W) (o : Obj) : GBox T S enc B base xs (W.alloc o) := by
 obtain ⟨v, h1, h2⟩ := h; exact ⟨v, h1.alloc o, h2.alloc o⟩
theorem qdp {W w1 : World} {B base : Nat} {v v' : Value} {xs ys : List α} (hST : S ≠ T) (hv : Boxed W B S v) (hown : OwnG T enc W base v xs) (hbB : base ≤ B) (hown' : OwnG T enc w1 base v' ys) (hg : W.grownBy w1 v.ownBlock) :
 Boxed w1 B S v ∧ GBox T S enc B base ys (w1.setCell ⟨B, 0, none⟩ v') ∧ KeepsOthers W (w1.setCell ⟨B, 0, none⟩ v') ∧ Below base W (w1.setCell ⟨B, 0, none⟩ v') ∧ (∀ b t, t ≠ T → b < W.heap.size → b ≠ B → (∀ u, Boxed W b t u → KeepB b W (w1.setCell ⟨B, 0, none⟩ v'))) := by
 have hv1 : Boxed w1 B S v := hv.kept hg (hv.not_row hST hown)
 refine ⟨hv1, ⟨v', hv1.set v', World.ownsRow.kept hown' (grownBy_setCell' w1 B v') (.inr (hv1.not_row hST hown').symm)⟩, ?_, ?_, ?_⟩
 ·refine (KeepsOthers.of_grownBy hg fun j o ej hj => ?_).trans (KeepsOthers.setCell _ _ _)
  rcases hown.2 with ⟨rfl, _⟩ | ⟨g, cap, cur, rfl, _, hgb, _⟩
  ·simp [Value.ownBlock] at ej
  ·obtain rfl : g = j := by simpa [Value.ownBlock] using ej
   rw [hgb] at hj; cases hj; rfl
 ·have hle : base ≤ W.heap.size := Nat.le_trans hbB (Nat.le_of_lt hv.lt)
  exact ((Below.refl base W).grown hg hle hown.base_le).setCell (p := ⟨B, 0, none⟩) hbB v'
 ·intro b t hT hb hne u hu
  exact (KeepB.of_grownBy hg hb (hu.not_row hT hown)).trans (KeepB.setCell _ _ hne)
end
def strV (l : List UInt8) : Value := .string ⟨l.toArray⟩
theorem qme (l : List UInt8) : (strV l).oneCell' = true := rfl
theorem qm6 : ElemT 9 23 16 := ⟨Tryz.underlying23, _, _, rfl, rfl, rfl, rfl, rfl⟩
theorem qjb (s : ByteArray) : strV s.data.toList = .string s := by unfold strV; simp
end Go.Proofs.YtckammgnmgkieaaGreat
namespace Go.Proofs.YtckammgnmgkieaaGreat
set_option maxRecDepth 100000
set_option maxHeartbeats 1000000
open Go.RowKit Go.Shelf
def qam (l : List UInt8) : Int := if l = [] then 8 else if 63 < l.length then 3 else 0
def digitU (c : UInt8) : Bool := decide (48 ≤ c.toNat ∧ c.toNat ≤ 57)
def smallU (c : UInt8) : UInt8 := if 65 ≤ c.toNat ∧ c.toNat ≤ 90 then c + 32 else c
theorem qgI (c : UInt8) (h1 : 65 ≤ (c.toNat : Int)) (h2 : (c.toNat : Int) ≤ 90) : (c.toNat : Int) + 97 - 65 = ((smallU c).toNat : Int) := by
 unfold smallU; rw [if_pos ⟨by omega, by omega⟩, UInt8.toNat_add]; simp; omega
theorem qls (c : UInt8) (h : ¬ (65 ≤ (c.toNat : Int) ∧ (c.toNat : Int) ≤ 90)) : (c.toNat : Int) = ((smallU c).toNat : Int) := by
 unfold smallU; rw [if_neg (by omega)]
theorem qiQ (c : UInt8) (w : World) :
 Calls Tryz.prog 145 #[.int .u8 (c.toNat : Int)] w fun e w' => e = .returned (.int .u8 ((smallU c).toNat : Int)) ∧ w = w' := by
 have h1 : (c.toNat : Int) ≤ 255 := by have := c.toNat_lt; omega
 by_cases h : (65 : Int) ≤ (c.toNat : Int) ∧ (c.toNat : Int) ≤ 90
 ·have ha := qgI c h.1 h.2
  have H := qH0 ha; clear ha
  obtain ⟨h2, h3⟩ := h
  go_enter Tryz.func145, Tryz.ntmps145
  go_wp2
  go_ret
  exact ⟨qaE H.out, rfl⟩
 ·have ha := qls c h
  have H := qH0 ha; clear ha
  by_cases h2 : (65 : Int) ≤ (c.toNat : Int)
  all_goals
   go_enter Tryz.func145, Tryz.ntmps145
   go_wp2
   try (exfalso; omega)
   try (go_ret; exact ⟨qaE H.out, rfl⟩)
theorem qi1 (s : ByteArray) (w : World) (hs : s.size ≤ maxLen) :
 Calls Tryz.prog 197 #[.string s] w fun e w' => e = .returned (.int .i64 (qam s.data.toList)) ∧ w = w' := by
 unfold maxLen at hs
 go_enter Tryz.func197, Tryz.ntmps197
 go_wp2
 all_goals go_ret
 all_goals refine ⟨qaE ?_, rfl⟩
 ·have := qeh (by assumption); show 8 = _; simp [qam, this]
 ·have h1 := qbE (by assumption); have h2 : 63 < (s.size : Int) := by assumption
  have h3 : 63 < s.data.toList.length := by rw [show s.data.toList.length = s.size from rfl]; omega
  show 3 = _; rw [qam, if_neg h1, if_pos h3]
 ·have h1 := qbE (by assumption); have h2 : (s.size : Int) ≤ 63 := by assumption
  have h3 : ¬ 63 < s.data.toList.length := by rw [show s.data.toList.length = s.size from rfl]; omega
  show 0 = _; rw [qam, if_neg h1, if_neg h3]
section
attribute [local go_sem] Oper.semAt_some
theorem qjx (n : Nat) (hn : 1 ≤ n) (l b : Nat) (s : ByteArray) (hs : s.size ≤ maxLen) (J Jx : List UInt8 → World → Prop)
 (hY : ∀ pre x W, J pre W → pre.length < s.size → YieldAt Fence.wide (n - 1) Tryz.prog l #[.int .u8 (x.toNat : Int)] W fun e W' =>
   (e = .returned (.bool true) ∧ J (pre ++ [x]) W' ∧ KeepB b W W') ∨ (e = .returned (.bool false) ∧ Jx (pre ++ [x]) W'))
 (W : World) (hc : W.cell? ⟨b, 0, none⟩ = some (.string s)) (h0 : J [] W) :
 CallsIn Fence.wide n Tryz.prog 176 #[.func (.yield l) #[] #[], .pointer (some ⟨b, 0, none⟩)] W fun e W' => (∃ v, e = .returned v) ∧
  ((∃ ys, ys = s.data.toList ∧ J ys W') ∨ (∃ pre, pre <+: s.data.toList ∧ Jx pre W')) := by
 unfold maxLen at hs
 refine callsIn_of_wp Tryz.func176 rfl trivial ?_ rfl
 simp only [Tryz.ntmps176, List.size_toArray, List.length_cons, List.length_nil, Nat.reduceAdd, Nat.reduceSub, Array.replicate_succ, Array.replicate_zero, List.push_toArray, List.append_toArray, List.nil_append, List.cons_append]
 gi_wp2
 gi_loopw [6] (fun i wr => ∃ k : Nat, k ≤ s.size ∧ i = .int .i64 k ∧ J (s.data.toList.take k) wr ∧ KeepB b W wr)
  (fun i _ => s.size - (intOf i).toNat)
 case atStart => exact ⟨0, Nat.zero_le _, rfl, h0, KeepB.refl _ _⟩
 case round =>
  obtain ⟨k, hk, rfl, hJs, hnx⟩ := hrel
  have hcb : wr.cell? ⟨b, 0, none⟩ = some (.string s) := hnx.cell.trans hc
  by_cases hlt : k < s.size
  ·obtain ⟨fn, tmps, assign, body, hy, hR⟩ := hY _ s[k] wr hJs (by simp; omega)
   gi_wp2
   refine hR.mono ?_
   rintro e W3 (⟨rfl, hJ3, hk3⟩ | ⟨rfl, hJx3⟩)
   ·gi_wp2
    go_roundw
    case rel => exact ⟨k + 1, by omega, by simp, by rw [qbl s k hlt]; exact hJ3, hnx.trans hk3⟩
    case measure => simp [intOf]; omega
   ·gi_wp2
    refine bodyPost_ret (results_none rfl _ _ _) rfl ?_
    exact ⟨⟨_, rfl⟩, .inr ⟨_, by rw [← qbl s k hlt]; exact List.take_prefix _ _, hJx3⟩⟩
  ·obtain rfl : k = s.size := by omega
   gi_wp2
   go_end0
   exact ⟨⟨_, rfl⟩, .inl ⟨_, by rw [List.take_of_length_le (by simp)], hJs⟩⟩
theorem qhN (n : Nat) (hn : 1 ≤ n) (b : Nat) (s : ByteArray) (hs : s.size ≤ maxLen) (w : World) (hb : b < w.heap.size)
 (hc : w.cell? ⟨b, 0, none⟩ = some (.string s)) :
 SeqStopsK Fence.wide n Tryz.prog 176 #[.pointer (some ⟨b, 0, none⟩)] (fun x : UInt8 => #[Value.int .u8 (x.toNat : Int)]) (KeepB b) (fun ys => ys = s.data.toList) (fun pre => pre <+: s.data.toList) s.size w := fun l J Jx W hW _ _ hY h0 =>
 qjx n hn l b s hs J Jx hY W ((hW.cell (p := ⟨b, 0, none⟩) hb).trans hc) h0
theorem qhL (s : ByteArray) (w : World) :
 Calls Tryz.prog 144 #[.string s] w fun e w' => e = .returned (.func (.func 176) #[] #[.pointer (some ⟨w.heap.size, 0, none⟩)]) ∧ w' = w.alloc (.cells #[.string s] 9) := by
 go_enter Tryz.func144, Tryz.ntmps144
 go_wp2
 go_ret
 exact ⟨rfl, rfl⟩
end
def qaC (c : UInt8) : Bool := decide (c.toNat = 46 ∨ c.toNat = 92 ∨ c.toNat = 34 ∨ c.toNat = 40 ∨ c.toNat = 41 ∨ c.toNat = 59 ∨ c.toNat = 64 ∨ c.toNat = 36)
def octetW (c : UInt8) : List UInt8 :=
 if qaC c then [92, c] else if c.toNat < 33 ∨ 126 < c.toNat then [92, 48 + c / 100, 48 + c / 10 % 10, 48 + c % 10] else [c]
def qax (c : UInt8) : List UInt8 := [92, 48 + c / 100, 48 + c / 10 % 10, 48 + c % 10]
theorem qbg {c : UInt8} (h : qaC c = true) : octetW c = [92, c] := by simp [octetW, h]
theorem qbW {c : UInt8} (h : qaC c = false) (h2 : (c.toNat : Int) < 33 ∨ 126 < (c.toNat : Int)) : octetW c = qax c := by
 have : c.toNat < 33 ∨ 126 < c.toNat := by omega
 simp [octetW, h, this, qax]
theorem qbw {c : UInt8} (h : qaC c = false) (h2 : 33 ≤ (c.toNat : Int)) (h3 : (c.toNat : Int) ≤ 126) : octetW c = [c] := by
 have : ¬ (c.toNat < 33 ∨ 126 < c.toNat) := by omega
 simp [octetW, h, this]
theorem sp_of {c : UInt8} (n : Int) (hn : n = 46 ∨ n = 92 ∨ n = 34 ∨ n = 40 ∨ n = 41 ∨ n = 59 ∨ n = 64 ∨ n = 36) (h : ((c.toNat : Int) == n) = true) : qaC c = true := by
 simp only [beq_iff_eq] at h
 unfold qaC; apply decide_eq_true; omega
theorem sp_not {c : UInt8} (h1 : ((c.toNat : Int) == 46) = false) (h2 : ((c.toNat : Int) == 92) = false) (h3 : ((c.toNat : Int) == 34) = false) (h4 : ((c.toNat : Int) == 40) = false)
 (h5 : ((c.toNat : Int) == 41) = false) (h6 : ((c.toNat : Int) == 59) = false) (h7 : ((c.toNat : Int) == 64) = false) (h8 : ((c.toNat : Int) == 36) = false) : qaC c = false := by
 simp only [beq_eq_false_iff_ne, ne_eq] at h1 h2 h3 h4 h5 h6 h7 h8
 unfold qaC; apply decide_eq_false; omega
theorem qgL (c : UInt8) : [Value.int .u8 92, .int .u8 (48 + (c.toNat : Int) / 100), .int .u8 (48 + (c.toNat : Int) / 10 % 10), .int .u8 (48 + (c.toNat : Int) % 10)] = (qax c).map bv := by
 have := c.toNat_lt
 simp only [qax, List.map_cons, List.map_nil, bv, UInt8.toNat_add, UInt8.toNat_div, UInt8.toNat_mod, UInt8.reduceToNat]
 have e1 : (48 + c.toNat / 100) % 2 ^ 8 = 48 + c.toNat / 100 := by omega
 have e2 : (48 + c.toNat / 10 % 10) % 2 ^ 8 = 48 + c.toNat / 10 % 10 := by omega
 have e3 : (48 + c.toNat % 10) % 2 ^ 8 = 48 + c.toNat % 10 := by omega
 rw [e1, e2, e3]
 simp
theorem qge {c : UInt8} {v v' : Value} {base : Nat} {xs : List UInt8} {w w1 : World} (l : List UInt8) (e : octetW c = l)
 (hown1 : OwnU8 w1 base v' (xs ++ l)) (hgrow : w.grownBy w1 v.ownBlock) : qgt base (xs ++ octetW c) w v (.returned v') w1 := by
 subst e; exact ⟨v', rfl, hown1, hgrow⟩
theorem qeO (c : UInt8) (v : Value) (base : Nat) (xs : List UInt8) (w : World) (hown : OwnU8 w base v xs) (hbase : base ≤ w.heap.size) (hk : xs.length + 4 ≤ 140737488355328) :
 Calls Tryz.prog 196 #[v, .int .u8 (c.toNat : Int)] w (qgt base (xs ++ octetW c) w v) := by
 have h1 : (c.toNat : Int) ≤ 255 := by have := c.toNat_lt; omega
 have h0 : 0 ≤ (c.toNat : Int) := by omega
 go_enter Tryz.func196, Tryz.ntmps196
 go_wp2_with (first | (at_builtin; refine qcy w rfl (.tmp 15) (.tmp 17) rfl base v xs rfl hown [.int .u8 92, .int .u8 (c.toNat : Int)] [92, c] rfl 2 2 rfl rfl hbase (by simp; omega) ?_; intro v' w1 hown1 hgrow) | (at_builtin; refine qcy w rfl (.tmp 25) (.tmp 36) rfl base v xs rfl hown _ (qax c) (qgL c) 4 4 rfl rfl hbase (by simp [qax]; omega) ?_; intro v' w1 hown1 hgrow) | (at_builtin; refine qcy w rfl (.tmp 38) (.tmp 40) rfl base v xs rfl hown [.int .u8 (c.toNat : Int)] [c] rfl 1 1 rfl rfl hbase (by simp; omega) ?_; intro v' w1 hown1 hgrow))
 all_goals go_ret
 all_goals first
  | (refine qge [92, c] ?_ hown1 hgrow; refine qbg ?_; first | (refine sp_of 46 (by decide) ?_; assumption) | (refine sp_of 92 (by decide) ?_; assumption) | (refine sp_of 34 (by decide) ?_; assumption) | (refine sp_of 40 (by decide) ?_; assumption) | (refine sp_of 41 (by decide) ?_; assumption) | (refine sp_of 59 (by decide) ?_; assumption) | (refine sp_of 64 (by decide) ?_; assumption) | (refine sp_of 36 (by decide) ?_; assumption))
  | (refine qge (qax c) ?_ hown1 hgrow; refine qbW (sp_not ?_ ?_ ?_ ?_ ?_ ?_ ?_ ?_) ?_ <;> first | assumption | omega)
  | (refine qge [c] ?_ hown1 hgrow; refine qbw (sp_not ?_ ?_ ?_ ?_ ?_ ?_ ?_ ?_) ?_ ?_ <;> first | assumption | omega)
end Go.Proofs.YtckammgnmgkieaaGreat
namespace Go.Proofs.YtckammgnmgkieaaGreat
set_option maxRecDepth 100000
set_option maxHeartbeats 2000000
open Go.RowKit Go.Shelf
def textL (l : List UInt8) : List UInt8 := l.flatMap octetW
theorem qfU (l : List UInt8) (c : UInt8) : textL (l ++ [c]) = textL l ++ octetW c := by simp [textL]
theorem qkL (c : UInt8) : (octetW c).length ≤ 4 := by unfold octetW; split; · simp
                                                      split <;> simp
theorem qcd (l : List UInt8) : (textL l).length ≤ 4 * l.length := by
 induction l with
 | nil => simp [textL]
 | cons c l ih => have := qkL c; simp only [textL, List.flatMap_cons, List.length_append, List.length_cons] at ih ⊢; omega
section
attribute [local go_sem] Oper.semAt_some
theorem qj3 (s : ByteArray) (w : World) (hs : s.size ≤ 35184372088000) :
 Calls Tryz.prog 173 #[.string s] w fun e w' => e = .returned (.string ⟨(textL s.data.toList).toArray⟩) ∧ Below w.heap.size w w' := by
 obtain ⟨i0, hi, hz0, hz1, hz2⟩ := info_parts qeE
 refine (callsIn_wide (n := 5)).1 ?_
 refine callsIn_of_wp_marks Tryz.func173 rfl trivial ?_ rfl
 simp only [Tryz.ntmps173, List.size_toArray, List.length_cons, List.length_nil, Nat.reduceAdd, Nat.reduceSub, Array.replicate_succ, Array.replicate_zero, List.push_toArray, List.append_toArray, List.nil_append, List.cons_append]
 gi_wp2_with (first | (gi_at_make; refine wpListIn_make_own _ rfl _ _ 99 rfl w.heap.size 5 i0 (.int .u8 0) 1 Tryz.underlying99 hi hz0 hz1 .i64 .i64 _ s.size rfl rfl rfl (by rw [hz2]; omega) (by unfold maxLen; omega) (qN0) ?_; intro w0 hown0 hgrow0) | (refine ⟨trivial, ?_⟩; gi_at_call 144; refine (callsIn_wide.2 (qhL _ _)).mono ?_; rintro e w' ⟨rfl, rfl⟩))
 have hg1 : w.heap.size ≤ w0.heap.size := hgrow0.size
 have bO := Boxed.new w0 99 (.slice (some ⟨w.heap.size, 0, none⟩) 0 s.size)
 have bS := Boxed.new (w0.alloc (.cells #[.slice (some ⟨w.heap.size, 0, none⟩) 0 s.size] 99)) 9 (.string s)
 rw [World.size_alloc] at bS
 have hB0 : Below w.heap.size w ((w0.alloc (.cells #[.slice (some ⟨w.heap.size, 0, none⟩) 0 s.size] 99)).alloc (.cells #[.string s] 9)) :=
  (((Below.refl _ w).grown hgrow0 (qN0) (by simp)).alloc hg1 _).alloc (by simp; omega) _
 obtain ⟨W0, hW0⟩ : ∃ W0, ((w0.alloc (.cells #[.slice (some ⟨w.heap.size, 0, none⟩) 0 s.size] 99)).alloc (.cells #[.string s] 9)) = W0 := ⟨_, rfl⟩
 have hsz : W0.heap.size = w0.heap.size + 2 := by rw [← hW0]; simp
 have hI0 : OutBox w0.heap.size w.heap.size [] W0 := by rw [← hW0]; exact ⟨_, bO.alloc _, (World.ownsRow.alloc hown0 _).alloc _⟩
 rw [hW0] at bS hB0 ⊢
 have HZ := qH0 hsz; clear hsz hW0
 refine wpIn_rangeFunc_ownG rfl (by omega) (gf := 176) (lb := #[.pointer (some ⟨w0.heap.size + 1, 0, none⟩)]) rfl trivial (enters_of Tryz.func176 (by kernel_rfl) rfl)
  (qhN _ (by omega) (w0.heap.size + 1) s (by unfold maxLen; omega) W0 (by rw [HZ.out]; omega) bS.cell) qgc (qdo (by rw [HZ.out]; omega)) (qL0) (fun _ => rfl)
  (fun pre W => OutBox w0.heap.size w.heap.size (textL pre) W ∧ Below w.heap.size w W ∧ Boxed W (w0.heap.size + 1) 9 (.string s))
  (fun _ _ _ => False)
  (OwnFrom.and (Own.from (qj0 w0.heap.size w.heap.size textL) _) (OwnFrom.and (ownFrom_below (qN0) (by rw [HZ.out]; omega)) (Own.from (boxed_own _ _ _) _)))
  (fun _ _ _ _ _ hs _ _ => hs)
  ⟨hI0, hB0, bS⟩
  (fun c => { tmps := #[.string s, undef, .string ⟨#[]⟩, .pointer (some ⟨w0.heap.size, 0, none⟩), .int .u8 (c.toNat : Int), .string s, .int .i64 (s.size : Int), .slice (some ⟨w.heap.size, 0, none⟩) 0 s.size, .string s, .func (.func 176) #[] #[.pointer (some ⟨w0.heap.size + 1, 0, none⟩)], .int .u8 (c.toNat : Int), undef, undef, undef, undef, undef], defers := [] }) ?assign ?body ?done ?stop
 case assign =>
  intro l x W K hK
  gi_wp2
  exact hK
 case body =>
  rintro l pre c W ⟨⟨v, hv, hown⟩, hB, hS⟩ hlt
  have hc := hv.cell
  have hple := qcd pre
  gi_wp2_with (refine ⟨trivial, ?_⟩; gi_at_call 196; refine (CallsIn.inRound l (callsIn_wide.2 (qeO c v w.heap.size (textL pre) W hown hB.size (by omega)))).mono ?_; rintro e w' ⟨v', rfl, hown', hg'⟩; obtain ⟨a', n', c', rfl⟩ := hown'.shape; obtain ⟨hv1, ho2, hk2, hb2, hs2⟩ := qg9 hv hown (by omega) hown' hg'; have hc1 := hv1.cell; have hf1 := hv1.frozen)
  exact ⟨hk2.from _, hs2 _ hS.lt (by omega) _ hS, ⟨by rw [qfU]; exact ho2, hB.trans hb2, qdC (hs2 _ hS.lt (by omega) _ hS) hS⟩⟩
 case done =>
  rintro D ys W hD rfl ⟨⟨v, hv, hown⟩, hB, _⟩ hK
  have hc := hv.cell
  have hcv := hown.string
  gi_wp2
  refine ⟨by simp, .inl ⟨_, _, rfl, run_takeDeferred hK, ?_⟩⟩
  exact ⟨_, results_tmp rfl _ _ _, rfl, hB.trans (belowK_b (w := w) (qN0) W D _ _ (by have := HZ.out; omega) hK rfl rfl)⟩
 case stop =>
  rintro D c pre W _ _ h _
  exact h.elim
end
end Go.Proofs.YtckammgnmgkieaaGreat
