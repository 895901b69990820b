/-
  Small facts on bytes, strings and slices of bytes that the call itself owns: used by all walks of this seat.
-/
import Derived.Test.YtbnkecmhmcligaaDoorRows
import Derived.RangeFuncNested
import Derived.RangeFuncBound
import Derived.RangeFuncCalls
import Derived.RangeFuncLeaves
import Derived.RangeFuncBox
import Derived.Shelf.Abstract
import Derived.Shelf.RegionOpen
import Derived.WalkKit
import Derived.WalkSpells
import Derived.WalkLawsBesides
import Derived.OwnWalkIn
import Derived.TacticsInMore
import Derived.LoopNIn
import Derived.LoopIn
import Derived.Maps.AppendAt
import Derived.BigQuiet
import Derived.Lib.Hide
import Derived.Lib.BufferRead
namespace Go.Proofs.YtbnkecmhmcligaaDoor
set_option linter.unusedVariables false
set_option linter.unusedSimpArgs false
set_option maxRecDepth 20000
open Go.RowKit Go.Shelf

theorem ret_int {k : IntKind} {a b : Int} (h : a = b) : Ending.returned (.int k a) = .returned (.int k b) := by rw [h]
theorem ret_bool {a b : Bool} (h : a = b) : Ending.returned (.bool a) = .returned (.bool b) := by rw [h]
theorem ret_str {a b : ByteArray} (h : a.data.toList = b.data.toList) : Ending.returned (.string a) = .returned (.string b) := by
  obtain ⟨⟨a⟩⟩ := a; obtain ⟨⟨b⟩⟩ := b; simp at h; rw [h]
theorem toList_data (s : ByteArray) : s.toList = s.data.toList := ByteArray.toList_eq s
theorem isEmpty_true {s : ByteArray} (h : s.toList.isEmpty = true) : s.data.toList = [] := by
  rw [toList_data] at h; simpa using h
theorem isEmpty_false {s : ByteArray} (h : s.toList.isEmpty = false) : s.data.toList ≠ [] := by
  rw [toList_data] at h; intro e; rw [e] at h; simp at h
theorem take_snoc_get (s : ByteArray) (k : Nat) (h : k < s.size) : s.data.toList.take (k + 1) = s.data.toList.take k ++ [s[k]] := by
  rw [List.take_succ_eq_append_getElem (by simpa using h)]; rfl
theorem drop_cons_get (s : ByteArray) (k : Nat) (h : k < s.size) : s.data.toList.drop k = s[k] :: s.data.toList.drop (k + 1) := by
  rw [List.drop_eq_getElem_cons (by simpa using h)]; rfl
theorem size_data (s : ByteArray) : s.data.toList.length = s.size := rfl

/-- A byte as a slot or a cell holds it. -/
def bv (c : UInt8) : Value := .int .u8 (c.toNat : Int)
theorem bv_one (l : List UInt8) : ∀ u ∈ l.map bv, u.oneCell' = true := by
  intro u hu; obtain ⟨c, _, rfl⟩ := List.mem_map.1 hu; rfl

theorem cells_new (w : World) (l : List Value) (T : TypeId) : ∀ j u, l[j]? = some u → (w.alloc (.cells l.toArray T)).cell? ((⟨w.heap.size, 0, none⟩ : Addr).add j) = some u := by
  intro j u h
  have hn := World.alloc_heap_new w (.cells l.toArray T)
  have e : ((⟨w.heap.size, 0, none⟩ : Addr).add j) = ⟨w.heap.size, j, none⟩ := by unfold Addr.add; by_cases hj : j = 0 <;> simp [hj]
  rw [e]
  unfold World.cell?
  rw [hn]
  simpa using h

theorem info_u8 : (Tryd.prog.info? 5).map (fun i => (i.zero, i.size, i.bytes)) = some (some (.int .u8 0), 1, 1) := by kernel_rfl

/-- What a call has done to memory below B and to the row that v owns. -/
theorem grownBy_of_alloc {W w' : World} {o : Obj} {row : Option Nat} (h : (W.alloc o).grownBy w' row) : W.grownBy w' row :=
  ⟨h.os, h.tape, h.output, by have := h.size; simp at this; omega, fun k hk hne => by
    rw [h.block k (by simp; omega) hne]
    exact (World.grownBy_alloc W o none).block k hk (by simp)⟩

/-- The slice value v is the call's own: a row of just these bytes in a block from base on. -/
def OwnU8 (W : World) (base : Nat) (v : Value) (xs : List UInt8) : Prop := W.ownsRow base 5 1 v xs.length (xs.map bv)
theorem OwnU8.alloc {W : World} {base : Nat} {v : Value} {xs : List UInt8} (h : OwnU8 W base v xs) (o : Obj) : OwnU8 (W.alloc o) base v xs := World.ownsRow.alloc h o
theorem OwnU8.nil (W : World) (base : Nat) : OwnU8 W base (.slice none 0 0) [] := World.ownsRow_nil _ _ _ _
theorem OwnU8.base_le {W : World} {base : Nat} {v : Value} {xs : List UInt8} (h : OwnU8 W base v xs) : ∀ k, v.ownBlock = some k → base ≤ k := by
  intro k hk
  rcases h.2 with ⟨rfl, _⟩ | ⟨g, cap, cur, rfl, hb, _⟩
  · simp [Value.ownBlock] at hk
  · obtain rfl : g = k := by simpa [Value.ownBlock] using hk
    exact hb
theorem OwnU8.shape {W : World} {base : Nat} {v : Value} {xs : List UInt8} (h : OwnU8 W base v xs) : ∃ a n c, v = .slice a n c := by
  rcases h.2 with ⟨rfl, _⟩ | ⟨g, cap, cur, rfl, _⟩ <;> exact ⟨_, _, _, rfl⟩
/-- What a function that appends to such a row has done. -/
def AppendsU8 (base : Nat) (xs : List UInt8) (w : World) (v : Value) (e : Ending) (w' : World) : Prop := ∃ v', e = .returned v' ∧ OwnU8 w' base v' xs ∧ w.grownBy w' v.ownBlock

theorem wpl_append_u8 {ops : Array Oper} {rest : List Oper} {o : Oper} {a : Act} {Q : Exit → Act → World → Prop} (W : World) (hgd : o.guard = none) (s x : Operand)
    (ho : o.op = .call { callee := .builtin .append, args := #[s, x], argTypes := #[58, 58] })
    (base : Nat) (v : Value) (xs : List UInt8) (hs : a.eval s = v) (hown : OwnU8 W base v xs)
    (cells : List Value) (news : List UInt8) (hcells : cells = news.map bv) (m c : Nat) (hx : a.eval x = .slice (some ⟨W.heap.size, 0, none⟩) m c) (hm : m = news.length)
    (hbase : base ≤ W.heap.size) (hk : xs.length + news.length ≤ 140737488355328)
    (h : ∀ v' w', OwnU8 w' base v' (xs ++ news) → W.grownBy w' v.ownBlock → wpList Tryd.prog ops Q rest (a.put o.dst v') w') :
    wpList Tryd.prog ops Q (o :: rest) a (W.alloc (.cells cells.toArray 5)) := by
  subst hcells hm
  obtain ⟨i0, hi, hz0, hz1, hz2⟩ := info_parts info_u8
  refine wpList_append_own _ hgd s x 58 ho base 5 i0 (.int .u8 0) 1 1 Tryd.underlying58 hi hz0 hz1 hz2 rfl (by decide) v xs.length (xs.map bv) hs (hown.alloc _) ⟨W.heap.size, 0, none⟩ news.length c (news.map bv) hx (by simp) (cells_new W _ _) (bv_one _) (by unfold maxLen; omega) (by omega) (by simp; omega) ?_
  intro v' w' h1 h2 _
  refine h v' w' ?_ (grownBy_of_alloc h2)
  unfold OwnU8
  rw [List.length_append, List.map_append]
  exact h1

theorem wplIn_append_u8 {F : Fence} {n : Nat} {ops : Array Oper} {rest : List Oper} {o : Oper} {a : Act} {Q : Exit → Act → World → Prop} (W : World) (hgd : o.guard = none) (s x : Operand)
    (ho : o.op = .call { callee := .builtin .append, args := #[s, x], argTypes := #[58, 58] })
    (base : Nat) (v : Value) (xs : List UInt8) (hs : a.eval s = v) (hown : OwnU8 W base v xs)
    (cells : List Value) (news : List UInt8) (hcells : cells = news.map bv) (m c : Nat) (hx : a.eval x = .slice (some ⟨W.heap.size, 0, none⟩) m c) (hm : m = news.length)
    (hbase : base ≤ W.heap.size) (hk : xs.length + news.length ≤ 140737488355328)
    (h : ∀ v' w', OwnU8 w' base v' (xs ++ news) → W.grownBy w' v.ownBlock → wpListIn F n Tryd.prog ops Q rest (a.put o.dst v') w') :
    wpListIn F n Tryd.prog ops Q (o :: rest) a (W.alloc (.cells cells.toArray 5)) := by
  subst hcells hm
  obtain ⟨i0, hi, hz0, hz1, hz2⟩ := info_parts info_u8
  refine wpListIn_append_own _ hgd s x 58 ho base 5 i0 (.int .u8 0) 1 1 Tryd.underlying58 hi hz0 hz1 hz2 rfl (by decide) v xs.length (xs.map bv) hs (hown.alloc _) ⟨W.heap.size, 0, none⟩ news.length c (news.map bv) hx (by simp) (cells_new W _ _) (bv_one _) (by unfold maxLen; omega) (by omega) (by simp; omega) ?_
  intro v' w' h1 h2 _
  refine h v' w' ?_ (grownBy_of_alloc h2)
  unfold OwnU8
  rw [List.length_append, List.map_append]
  exact h1

/-- One block lies as it lay: what an iterator wants of a round that reads a boxed variable of its own. -/
def KeepB (b : Nat) (W W' : World) : Prop := W'.heap[b]? = W.heap[b]?
theorem KeepB.refl (b : Nat) (W : World) : KeepB b W W := rfl
theorem KeepB.trans {b : Nat} {A B C : World} (h : KeepB b A B) (h' : KeepB b B C) : KeepB b A C := Eq.trans h' h
theorem KeepB.cell {b : Nat} {A B : World} (h : KeepB b A B) {o : Nat} : B.cell? ⟨b, o, none⟩ = A.cell? ⟨b, o, none⟩ := World.cell?_of_block (a := ⟨b, o, none⟩) h
theorem KeepB.of_grownBy {b : Nat} {A B : World} {row : Option Nat} (h : A.grownBy B row) (hb : b < A.heap.size) (hne : some b ≠ row) : KeepB b A B := h.block b hb hne
theorem KeepB.setCell {b c : Nat} (W : World) (v : Value) (hne : b ≠ c) : KeepB b W (W.setCell ⟨c, 0, none⟩ v) := by
  by_cases hb : b < W.heap.size
  · exact (grownBy_setCell' W c v).block b hb (by simpa using hne)
  · unfold KeepB
    have h1 : W.heap[b]? = none := Array.getElem?_eq_none (by omega)
    have h2 : (W.setCell ⟨c, 0, none⟩ v).heap.size = W.heap.size := by simp
    rw [h1, Array.getElem?_eq_none (by omega)]
theorem KeepB.alloc {b : Nat} (W : World) (o : Obj) (hb : b < W.heap.size) : KeepB b W (W.alloc o) := (World.grownBy_alloc W o none).block b hb (by simp)
theorem boxed_keep {b : Nat} {A B : World} {t : TypeId} {v : Value} (h : KeepB b A B) (hv : Boxed A b t v) : Boxed B b t v := Eq.trans h hv
theorem keepB_t {b : Nat} {A B C : World} (h : KeepB b A B) (h' : KeepB b B C) : KeepB b A C := h.trans h'
theorem keepB_b {b : Nat} {w : World} (hb : b < w.heap.size) : ∀ (W : World) (l : Nat) (o o' : Obj), w.heap.size ≤ l → W.heap[l]? = some o → o.isCells = false → o.isWalk = false → KeepB b W (W.putObj l o') := fun _ _ _ _ h1 _ _ _ =>
  World.putObj_heap_other (by omega)

/-- A boxed variable of a slice of bytes that the call owns. -/
def OutBox (B base : Nat) (xs : List UInt8) (W : World) : Prop := ∃ v, Boxed W B 58 v ∧ OwnU8 W base v xs
theorem outBox_own {α : Type} (B base : Nat) (f : α → List UInt8) : Own (fun pre W => OutBox B base (f pre) W) := fun s W W' row hs hg hr => by
  obtain ⟨v, h1, h2⟩ := hs
  obtain ⟨v', g1, g2, _⟩ := holdsRow_own base B 58 5 1 (fun s : α => (f s).length) (fun s => (f s).map bv) (fun _ _ => True) s W W' row ⟨v, h1, h2, trivial⟩ hg hr
  exact ⟨v', g1, g2⟩
theorem OutBox.alloc {B base : Nat} {xs : List UInt8} {W : World} (h : OutBox B base xs W) (o : Obj) : OutBox B base xs (W.alloc o) := by
  obtain ⟨v, h1, h2⟩ := h; exact ⟨v, h1.alloc o, h2.alloc o⟩

/-- Behind 'out = append(out, ..)' or 'out = f(out, ..)'. -/
theorem boxed_appends {W w1 : World} {B base : Nat} {v v' : Value} {xs ys : List UInt8} (hv : Boxed W B 58 v) (hown : OwnU8 W base v xs) (hbB : base ≤ B) (hown' : OwnU8 w1 base v' ys) (hg : W.grownBy w1 v.ownBlock) :
    Boxed w1 B 58 v ∧ OutBox B base ys (w1.setCell ⟨B, 0, none⟩ v') ∧ KeepsOthers W (w1.setCell ⟨B, 0, none⟩ v') ∧ Below base W (w1.setCell ⟨B, 0, none⟩ v') ∧ (∀ b, b < W.heap.size → b ≠ B → (∀ u, Boxed W b 9 u → KeepB b W (w1.setCell ⟨B, 0, none⟩ v'))) := by
  have hv1 : Boxed w1 B 58 v := hv.kept hg (hv.not_row (by decide) hown)
  refine ⟨hv1, ⟨v', hv1.set v', World.ownsRow.kept hown' (grownBy_setCell' w1 B v') (.inr (hv1.not_row (by decide) hown').symm)⟩, ?_, ?_, ?_⟩
  · refine (KeepsOthers.of_grownBy hg fun j o ej hj => ?_).trans (KeepsOthers.setCell _ _ _)
    rcases hown.2 with ⟨rfl, _⟩ | ⟨g, cap, cur, rfl, _, hgb, _⟩
    · simp [Value.ownBlock] at ej
    · obtain rfl : g = j := by simpa [Value.ownBlock] using ej
      rw [hgb] at hj; cases hj; rfl
  · have hle : base ≤ W.heap.size := Nat.le_trans hbB (Nat.le_of_lt hv.lt)
    exact ((Below.refl base W).grown hg hle hown.base_le).setCell (p := ⟨B, 0, none⟩) hbB v'
  · intro b hb hne u hu
    exact (KeepB.of_grownBy hg hb (hu.not_row (by decide) hown)).trans (KeepB.setCell _ _ hne)

/-- 'string(b)' of such a row. -/
theorem OwnU8.string {W : World} {base : Nat} {v : Value} {xs : List UInt8} (h : OwnU8 W base v xs) : (convert 58 9 v).run Tryd.prog W = .ok (.string ⟨xs.toArray⟩) W := by
  obtain ⟨h1, h2⟩ := h
  rcases h2 with ⟨rfl, hz⟩ | ⟨g, cap, cur, rfl, hb, hg, hc, hm, hsz, htk⟩
  · have : xs = [] := by simpa using hz
    subst this
    exact Lib.run_convert_nil_bytes W _ _ _ 0 Tryd.underlying58 Tryd.underlying5 Tryd.underlying9
  · refine run_convert_bytes_back W _ _ _ _ cap xs Tryd.underlying58 Tryd.underlying5 Tryd.underlying9 (Lib.bytes_of_row hg ?_)
    rw [Nat.mul_one] at htk
    rw [htk]; simp [Lib.byteCells, bv]

end Go.Proofs.YtbnkecmhmcligaaDoor

