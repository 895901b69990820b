/-
  Small facts on bytes, strings and slices of bytes that the call itself owns: used by all walks of this seat.
-/
import Derived.Test.YtckammgnmgkieaaRows
import Derived.RangeFuncNested
import Derived.RangeFuncBound
import Derived.RangeFuncCalls
import Derived.RangeFuncLeaves
import Derived.RangeFuncBox
import Derived.Shelf.Abstract
import Derived.Shelf.RegionOpen
import Derived.WalkKit
import Derived.WalkSpells
import Derived.WalkLawsBesides
import Derived.OwnWalkIn
import Derived.TacticsInMore
import Derived.LoopNIn
import Derived.LoopIn
import Derived.Maps.AppendAt
import Derived.BigQuiet
import Derived.Lib.Hide
import Derived.Lib.BufferRead
import Derived.Shelf.Lay
import Derived.Shelf.LaySoft
import Derived.Test.YtckammgnmgkieaaProg
namespace Go.Proofs.Ytckammgnmgkieaa
set_option maxRecDepth 20000
open Go.RowKit Go.Shelf

theorem ret_int {k : IntKind} {a b : Int} (h : a = b) : Ending.returned (.int k a) = .returned (.int k b) := by rw [h]
theorem ret_bool {a b : Bool} (h : a = b) : Ending.returned (.bool a) = .returned (.bool b) := by rw [h]
theorem ret_str {a b : ByteArray} (h : a.data.toList = b.data.toList) : Ending.returned (.string a) = .returned (.string b) := by
  obtain ⟨⟨a⟩⟩ := a; obtain ⟨⟨b⟩⟩ := b; simp at h; rw [h]
theorem toList_data (s : ByteArray) : s.toList = s.data.toList := ByteArray.toList_eq s
theorem isEmpty_true {s : ByteArray} (h : s.toList.isEmpty = true) : s.data.toList = [] := by
  rw [toList_data] at h; simpa using h
theorem isEmpty_false {s : ByteArray} (h : s.toList.isEmpty = false) : s.data.toList ≠ [] := by
  rw [toList_data] at h; intro e; rw [e] at h; simp at h
theorem take_snoc_get (s : ByteArray) (k : Nat) (h : k < s.size) : s.data.toList.take (k + 1) = s.data.toList.take k ++ [s[k]] := by
  rw [List.take_succ_eq_append_getElem (by simpa using h)]; rfl
theorem drop_cons_get (s : ByteArray) (k : Nat) (h : k < s.size) : s.data.toList.drop k = s[k] :: s.data.toList.drop (k + 1) := by
  rw [List.drop_eq_getElem_cons (by simpa using h)]; rfl
theorem size_data (s : ByteArray) : s.data.toList.length = s.size := rfl

/-- A byte as a slot or a cell holds it. -/
def bv (c : UInt8) : Value := .int .u8 (c.toNat : Int)
theorem bv_one (l : List UInt8) : ∀ u ∈ l.map bv, u.oneCell' = true := by
  intro u hu; obtain ⟨c, _, rfl⟩ := List.mem_map.1 hu; rfl

theorem cells_new (w : World) (l : List Value) (T : TypeId) : ∀ j u, l[j]? = some u → (w.alloc (.cells l.toArray T)).cell? ((⟨w.heap.size, 0, none⟩ : Addr).add j) = some u := by
  intro j u h
  have hn := World.alloc_heap_new w (.cells l.toArray T)
  have e : ((⟨w.heap.size, 0, none⟩ : Addr).add j) = ⟨w.heap.size, j, none⟩ := by unfold Addr.add; by_cases hj : j = 0 <;> simp [hj]
  rw [e]
  unfold World.cell?
  rw [hn]
  simpa using h

theorem info_u8 : (Try.prog.info? 5).map (fun i => (i.zero, i.size, i.bytes)) = some (some (.int .u8 0), 1, 1) := by kernel_rfl

/-- What a call has done to memory below B and to the row that v owns. -/
theorem grownBy_of_alloc {W w' : World} {o : Obj} {row : Option Nat} (h : (W.alloc o).grownBy w' row) : W.grownBy w' row :=
  ⟨h.os, h.tape, h.output, by have := h.size; simp at this; omega, fun k hk hne => by
    rw [h.block k (by simp; omega) hne]
    exact (World.grownBy_alloc W o none).block k hk (by simp)⟩

/-- The slice value v is the call's own: a row of just these bytes in a block from base on. -/
def OwnU8 (W : World) (base : Nat) (v : Value) (xs : List UInt8) : Prop := W.ownsRow base 5 1 v xs.length (xs.map bv)
theorem OwnU8.alloc {W : World} {base : Nat} {v : Value} {xs : List UInt8} (h : OwnU8 W base v xs) (o : Obj) : OwnU8 (W.alloc o) base v xs := World.ownsRow.alloc h o
theorem OwnU8.nil (W : World) (base : Nat) : OwnU8 W base (.slice none 0 0) [] := World.ownsRow_nil _ _ _ _
theorem OwnU8.base_le {W : World} {base : Nat} {v : Value} {xs : List UInt8} (h : OwnU8 W base v xs) : ∀ k, v.ownBlock = some k → base ≤ k := by
  intro k hk
  rcases h.2 with ⟨rfl, _⟩ | ⟨g, cap, cur, rfl, hb, _⟩
  · simp [Value.ownBlock] at hk
  · obtain rfl : g = k := by simpa [Value.ownBlock] using hk
    exact hb
theorem OwnU8.shape {W : World} {base : Nat} {v : Value} {xs : List UInt8} (h : OwnU8 W base v xs) : ∃ a n c, v = .slice a n c := by
  rcases h.2 with ⟨rfl, _⟩ | ⟨g, cap, cur, rfl, _⟩ <;> exact ⟨_, _, _, rfl⟩
/-- What a function that appends to such a row has done. -/
def AppendsU8 (base : Nat) (xs : List UInt8) (w : World) (v : Value) (e : Ending) (w' : World) : Prop := ∃ v', e = .returned v' ∧ OwnU8 w' base v' xs ∧ w.grownBy w' v.ownBlock

theorem wpl_append_u8 {ops : Array Oper} {rest : List Oper} {o : Oper} {a : Act} {Q : Exit → Act → World → Prop} (W : World) (hgd : o.guard = none) (s x : Operand)
    (ho : o.op = .call { callee := .builtin .append, args := #[s, x], argTypes := #[29, 29] })
    (base : Nat) (v : Value) (xs : List UInt8) (hs : a.eval s = v) (hown : OwnU8 W base v xs)
    (cells : List Value) (news : List UInt8) (hcells : cells = news.map bv) (m c : Nat) (hx : a.eval x = .slice (some ⟨W.heap.size, 0, none⟩) m c) (hm : m = news.length)
    (hbase : base ≤ W.heap.size) (hk : xs.length + news.length ≤ 140737488355328)
    (h : ∀ v' w', OwnU8 w' base v' (xs ++ news) → W.grownBy w' v.ownBlock → wpList Try.prog ops Q rest (a.put o.dst v') w') :
    wpList Try.prog ops Q (o :: rest) a (W.alloc (.cells cells.toArray 5)) := by
  subst hcells hm
  obtain ⟨i0, hi, hz0, hz1, hz2⟩ := info_parts info_u8
  refine wpList_append_own _ hgd s x 29 ho base 5 i0 (.int .u8 0) 1 1 Try.underlying29 hi hz0 hz1 hz2 rfl (by decide) v xs.length (xs.map bv) hs (hown.alloc _) ⟨W.heap.size, 0, none⟩ news.length c (news.map bv) hx (by simp) (cells_new W _ _) (bv_one _) (by unfold maxLen; omega) (by omega) (by simp; omega) ?_
  intro v' w' h1 h2 _
  refine h v' w' ?_ (grownBy_of_alloc h2)
  unfold OwnU8
  rw [List.length_append, List.map_append]
  exact h1

theorem wplIn_append_u8 {F : Fence} {n : Nat} {ops : Array Oper} {rest : List Oper} {o : Oper} {a : Act} {Q : Exit → Act → World → Prop} (W : World) (hgd : o.guard = none) (s x : Operand)
    (ho : o.op = .call { callee := .builtin .append, args := #[s, x], argTypes := #[29, 29] })
    (base : Nat) (v : Value) (xs : List UInt8) (hs : a.eval s = v) (hown : OwnU8 W base v xs)
    (cells : List Value) (news : List UInt8) (hcells : cells = news.map bv) (m c : Nat) (hx : a.eval x = .slice (some ⟨W.heap.size, 0, none⟩) m c) (hm : m = news.length)
    (hbase : base ≤ W.heap.size) (hk : xs.length + news.length ≤ 140737488355328)
    (h : ∀ v' w', OwnU8 w' base v' (xs ++ news) → W.grownBy w' v.ownBlock → wpListIn F n Try.prog ops Q rest (a.put o.dst v') w') :
    wpListIn F n Try.prog ops Q (o :: rest) a (W.alloc (.cells cells.toArray 5)) := by
  subst hcells hm
  obtain ⟨i0, hi, hz0, hz1, hz2⟩ := info_parts info_u8
  refine wpListIn_append_own _ hgd s x 29 ho base 5 i0 (.int .u8 0) 1 1 Try.underlying29 hi hz0 hz1 hz2 rfl (by decide) v xs.length (xs.map bv) hs (hown.alloc _) ⟨W.heap.size, 0, none⟩ news.length c (news.map bv) hx (by simp) (cells_new W _ _) (bv_one _) (by unfold maxLen; omega) (by omega) (by simp; omega) ?_
  intro v' w' h1 h2 _
  refine h v' w' ?_ (grownBy_of_alloc h2)
  unfold OwnU8
  rw [List.length_append, List.map_append]
  exact h1

/-- One block lies as it lay: what an iterator wants of a round that reads a boxed variable of its own. -/
def KeepB (b : Nat) (W W' : World) : Prop := W'.heap[b]? = W.heap[b]?
theorem KeepB.refl (b : Nat) (W : World) : KeepB b W W := rfl
theorem KeepB.trans {b : Nat} {A B C : World} (h : KeepB b A B) (h' : KeepB b B C) : KeepB b A C := Eq.trans h' h
theorem KeepB.cell {b : Nat} {A B : World} (h : KeepB b A B) {o : Nat} : B.cell? ⟨b, o, none⟩ = A.cell? ⟨b, o, none⟩ := World.cell?_of_block (a := ⟨b, o, none⟩) h
theorem KeepB.of_grownBy {b : Nat} {A B : World} {row : Option Nat} (h : A.grownBy B row) (hb : b < A.heap.size) (hne : some b ≠ row) : KeepB b A B := h.block b hb hne
theorem KeepB.setCell {b c : Nat} (W : World) (v : Value) (hne : b ≠ c) : KeepB b W (W.setCell ⟨c, 0, none⟩ v) := by
  by_cases hb : b < W.heap.size
  · exact (grownBy_setCell' W c v).block b hb (by simpa using hne)
  · unfold KeepB
    have h1 : W.heap[b]? = none := Array.getElem?_eq_none (by omega)
    have h2 : (W.setCell ⟨c, 0, none⟩ v).heap.size = W.heap.size := by simp
    rw [h1, Array.getElem?_eq_none (by omega)]
theorem KeepB.alloc {b : Nat} (W : World) (o : Obj) (hb : b < W.heap.size) : KeepB b W (W.alloc o) := (World.grownBy_alloc W o none).block b hb (by simp)
theorem boxed_keep {b : Nat} {A B : World} {t : TypeId} {v : Value} (h : KeepB b A B) (hv : Boxed A b t v) : Boxed B b t v := Eq.trans h hv
theorem keepB_t {b : Nat} {A B C : World} (h : KeepB b A B) (h' : KeepB b B C) : KeepB b A C := h.trans h'
theorem keepB_b {b : Nat} {w : World} (hb : b < w.heap.size) : ∀ (W : World) (l : Nat) (o o' : Obj), w.heap.size ≤ l → W.heap[l]? = some o → o.isCells = false → o.isWalk = false → KeepB b W (W.putObj l o') := fun _ _ _ _ h1 _ _ _ =>
  World.putObj_heap_other (by omega)

/-- A boxed variable of a slice of bytes that the call owns. -/
def OutBox (B base : Nat) (xs : List UInt8) (W : World) : Prop := ∃ v, Boxed W B 29 v ∧ OwnU8 W base v xs
theorem outBox_own {α : Type} (B base : Nat) (f : α → List UInt8) : Own (fun pre W => OutBox B base (f pre) W) := fun s W W' row hs hg hr => by
  obtain ⟨v, h1, h2⟩ := hs
  obtain ⟨v', g1, g2, _⟩ := holdsRow_own base B 29 5 1 (fun s : α => (f s).length) (fun s => (f s).map bv) (fun _ _ => True) s W W' row ⟨v, h1, h2, trivial⟩ hg hr
  exact ⟨v', g1, g2⟩
theorem OutBox.alloc {B base : Nat} {xs : List UInt8} {W : World} (h : OutBox B base xs W) (o : Obj) : OutBox B base xs (W.alloc o) := by
  obtain ⟨v, h1, h2⟩ := h; exact ⟨v, h1.alloc o, h2.alloc o⟩

/-- Behind 'out = append(out, ..)' or 'out = f(out, ..)'. -/
theorem boxed_appends {W w1 : World} {B base : Nat} {v v' : Value} {xs ys : List UInt8} (hv : Boxed W B 29 v) (hown : OwnU8 W base v xs) (hbB : base ≤ B) (hown' : OwnU8 w1 base v' ys) (hg : W.grownBy w1 v.ownBlock) :
    Boxed w1 B 29 v ∧ OutBox B base ys (w1.setCell ⟨B, 0, none⟩ v') ∧ KeepsOthers W (w1.setCell ⟨B, 0, none⟩ v') ∧ Below base W (w1.setCell ⟨B, 0, none⟩ v') ∧ (∀ b, b < W.heap.size → b ≠ B → (∀ u, Boxed W b 9 u → KeepB b W (w1.setCell ⟨B, 0, none⟩ v'))) := by
  have hv1 : Boxed w1 B 29 v := hv.kept hg (hv.not_row (by decide) hown)
  refine ⟨hv1, ⟨v', hv1.set v', World.ownsRow.kept hown' (grownBy_setCell' w1 B v') (.inr (hv1.not_row (by decide) hown').symm)⟩, ?_, ?_, ?_⟩
  · refine (KeepsOthers.of_grownBy hg fun j o ej hj => ?_).trans (KeepsOthers.setCell _ _ _)
    rcases hown.2 with ⟨rfl, _⟩ | ⟨g, cap, cur, rfl, _, hgb, _⟩
    · simp [Value.ownBlock] at ej
    · obtain rfl : g = j := by simpa [Value.ownBlock] using ej
      rw [hgb] at hj; cases hj; rfl
  · have hle : base ≤ W.heap.size := Nat.le_trans hbB (Nat.le_of_lt hv.lt)
    exact ((Below.refl base W).grown hg hle hown.base_le).setCell (p := ⟨B, 0, none⟩) hbB v'
  · intro b hb hne u hu
    exact (KeepB.of_grownBy hg hb (hu.not_row (by decide) hown)).trans (KeepB.setCell _ _ hne)

/-- 'string(b)' of such a row. -/
theorem OwnU8.string {W : World} {base : Nat} {v : Value} {xs : List UInt8} (h : OwnU8 W base v xs) : (convert 29 9 v).run Try.prog W = .ok (.string ⟨xs.toArray⟩) W := by
  obtain ⟨h1, h2⟩ := h
  rcases h2 with ⟨rfl, hz⟩ | ⟨g, cap, cur, rfl, hb, hg, hc, hm, hsz, htk⟩
  · have : xs = [] := by simpa using hz
    subst this
    exact Lib.run_convert_nil_bytes W _ _ _ 0 Try.underlying29 Try.underlying5 Try.underlying9
  · refine run_convert_bytes_back W _ _ _ _ cap xs Try.underlying29 Try.underlying5 Try.underlying9 (Lib.bytes_of_row hg ?_)
    rw [Nat.mul_one] at htk
    rw [htk]; simp [Lib.byteCells, bv]

end Go.Proofs.Ytckammgnmgkieaa

/-
  A region that draws its order, walked order by order: each order is a list of operations, and a walk of each list serves. Inside a fence and in the open.
-/
namespace Go.Proofs.Ytckammgnmgkieaa
set_option maxRecDepth 20000
open Go.RowKit Go.Shelf

/-- All orders that may be drawn from here on. -/
def ords (ops : Array Oper) : Nat → Array Bool → List (List Nat)
  | 0, _ => [[]]
  | f + 1, listed =>
    match Region.ready .any ops listed with
    | [] => [[]]
    | r :: rs => (r :: rs).flatMap fun i => (ords ops f (listed.setIfInBounds i true)).map (i :: ·)

theorem linearise_mem (ops : Array Oper) : ∀ (fuel t : Nat) (listed : Array Bool) (acc : List Nat), ∃ L ∈ ords ops fuel listed, Region.linearise.go .any ops fuel t listed acc = acc.reverse ++ L := by
  intro fuel
  induction fuel with
  | zero => intro t listed acc; exact ⟨[], by simp [ords], by simp [Region.linearise.go]⟩
  | succ fuel ih =>
    intro t listed acc
    simp only [Region.linearise.go]
    change ∃ L ∈ ords ops (fuel + 1) listed, (match (Region.ready .any ops listed)[t % (Region.ready .any ops listed).length]? with
      | some i => Region.linearise.go .any ops fuel (t / (Region.ready .any ops listed).length) (listed.setIfInBounds i true) (i :: acc)
      | none => acc.reverse) = acc.reverse ++ L
    cases hi : (Region.ready .any ops listed)[t % (Region.ready .any ops listed).length]? with
    | none =>
      have hnil : Region.ready .any ops listed = [] := by
        cases hr : Region.ready .any ops listed with
        | nil => rfl
        | cons x xs =>
          rw [hr] at hi
          have hlt : t % (x :: xs).length < (x :: xs).length := Nat.mod_lt _ (by simp)
          rw [List.getElem?_eq_getElem hlt] at hi
          cases hi
      exact ⟨[], by simp [ords, hnil], by simp⟩
    | some i =>
      have hmem : i ∈ Region.ready .any ops listed := List.mem_of_getElem? hi
      obtain ⟨L, hL, he⟩ := ih (t / (Region.ready .any ops listed).length) (listed.setIfInBounds i true) (i :: acc)
      refine ⟨i :: L, ?_, by simp only [he]; simp⟩
      cases hr : Region.ready .any ops listed with
      | nil => rw [hr] at hmem; cases hmem
      | cons x xs =>
        rw [hr] at hmem
        simp only [ords, hr]
        exact List.mem_flatMap.2 ⟨i, hmem, List.mem_map.2 ⟨L, hL, rfl⟩⟩

theorem wpOpsIn_of_list {F : Fence} {n : Nat} {P : Program} {ops : Array Oper} {Q : Exit → Act → World → Prop} : ∀ (L : List Nat) (a : Act) (w : World),
    wpListIn F n P ops Q (L.filterMap fun i => ops[i]?) a w → wpOpsIn F n P ops Q L a w := by
  intro L
  induction L with
  | nil => intro a w h; exact h
  | cons i L ih =>
    intro a w h
    cases ho : ops[i]? with
    | none =>
      rw [List.filterMap_cons, ho] at h
      simp only [wpOpsIn, ho]
      exact ih a w h
    | some o =>
      rw [List.filterMap_cons, ho] at h
      simp only [wpOpsIn, ho]
      simp only [wpListIn] at h
      split
      · rename_i hw
        rw [if_pos hw] at h
        exact Oper.wpIn_mono (fun a w h => ih a w h) h
      · rename_i hw
        rw [if_neg hw] at h
        exact ⟨h.1, ih _ _ h.2⟩

theorem wpOps_of_list {P : Program} {ops : Array Oper} {Q : Exit → Act → World → Prop} : ∀ (L : List Nat) (a : Act) (w : World),
    wpList P ops Q (L.filterMap fun i => ops[i]?) a w → wpOps P ops Q L a w := by
  intro L
  induction L with
  | nil => intro a w h; exact h
  | cons i L ih =>
    intro a w h
    cases ho : ops[i]? with
    | none =>
      rw [List.filterMap_cons, ho] at h
      simp only [wpOps, ho]
      exact ih a w h
    | some o =>
      rw [List.filterMap_cons, ho] at h
      simp only [wpOps, ho]
      simp only [wpList] at h
      split
      · rename_i hw
        rw [if_pos hw] at h
        exact h.imp (Oper.wp_mono (fun a w h => ih a w h)) id
      · rename_i hw
        rw [if_neg hw] at h
        exact ih _ _ h

def AllOrd (f : List Nat → Prop) : List (List Nat) → Prop
  | [] => True
  | L :: r => f L ∧ AllOrd f r
theorem AllOrd.mem {f : List Nat → Prop} : ∀ {l : List (List Nat)}, AllOrd f l → ∀ L ∈ l, f L
  | [], _, _, h => by cases h
  | _ :: _, h, L, hL => by
    rcases List.mem_cons.1 hL with rfl | hL
    · exact h.1
    · exact AllOrd.mem h.2 L hL

theorem wpIn_region_orders {F : Fence} {n : Nat} {P : Program} {id : Nat} {ops : Array Oper} {Q : Exit → Act → World → Prop} {a : Act} {w : World} (os : List (List Nat))
    (hm : P.follows .mixedOrders = true) (hos : ords ops ops.size (Array.replicate ops.size false) = os)
    (h : AllOrd (fun L => wpListIn F n P ops Q (L.filterMap fun i => ops[i]?) a w.drew) os) : (Code.region id ops true).wpIn F n P Q a w :=
  wpIn_region_draw fun t => by
    simp only [Region.schedule, hm, Bool.true_or, if_true, Region.linearise]
    obtain ⟨L, hL, he⟩ := linearise_mem ops ops.size t (Array.replicate ops.size false) []
    rw [he, List.reverse_nil, List.nil_append]
    rw [hos] at hL
    exact wpOpsIn_of_list L a _ (h.mem L hL)

theorem wp_region_orders {P : Program} {id : Nat} {ops : Array Oper} {Q : Exit → Act → World → Prop} {a : Act} {w : World} (os : List (List Nat))
    (hm : P.follows .mixedOrders = true) (hos : ords ops ops.size (Array.replicate ops.size false) = os)
    (h : AllOrd (fun L => wpList P ops Q (L.filterMap fun i => ops[i]?) a w.drew) os) : (Code.region id ops true).wp P Q a w :=
  wp_region_draw fun t => by
    simp only [Region.schedule, hm, Bool.true_or, if_true, Region.linearise]
    obtain ⟨L, hL, he⟩ := linearise_mem ops ops.size t (Array.replicate ops.size false) []
    rw [he, List.reverse_nil, List.nil_append]
    rw [hos] at hL
    exact wpOps_of_list L a _ (h.mem L hL)

theorem follows_mixed : Try.prog.follows .mixedOrders = true := by kernel_rfl

end Go.Proofs.Ytckammgnmgkieaa

/-
  Contracts of package label's small functions: Check, digit, small, appendOctet, octets. They only compute, or append to a slice of the caller's own.
-/
namespace Go.Proofs.Ytckammgnmgkieaa
set_option maxRecDepth 20000
open Go.RowKit Go.Shelf

/-- P101's Check, on octets. -/
def checkLabelM (l : List UInt8) : Int := if l = [] then 8 else if 63 < l.length then 3 else 0

def digitU (c : UInt8) : Bool := decide (48 ≤ c.toNat ∧ c.toNat ≤ 57)

def smallU (c : UInt8) : UInt8 := if 65 ≤ c.toNat ∧ c.toNat ≤ 90 then c + 32 else c

theorem smallU_hi (c : UInt8) (h1 : 65 ≤ (c.toNat : Int)) (h2 : (c.toNat : Int) ≤ 90) : (c.toNat : Int) + 97 - 65 = ((smallU c).toNat : Int) := by
  unfold smallU; rw [if_pos ⟨by omega, by omega⟩, UInt8.toNat_add]; simp; omega
theorem smallU_lo (c : UInt8) (h : ¬ (65 ≤ (c.toNat : Int) ∧ (c.toNat : Int) ≤ 90)) : (c.toNat : Int) = ((smallU c).toNat : Int) := by
  unfold smallU; rw [if_neg (by omega)]

set_option maxHeartbeats 400000 in
theorem label_small (c : UInt8) (w : World) :
    Calls Try.prog 71 #[.int .u8 (c.toNat : Int)] w fun e w' => e = .returned (.int .u8 ((smallU c).toNat : Int)) ∧ w = w' := by
  have h1 : (c.toNat : Int) ≤ 255 := by have := c.toNat_lt; omega
  by_cases h : (65 : Int) ≤ (c.toNat : Int) ∧ (c.toNat : Int) ≤ 90
  · have ha := smallU_hi c h.1 h.2
    have H := Lib.hid ha; clear ha
    obtain ⟨h2, h3⟩ := h
    go_enter Try.func71, Try.ntmps71
    go_wp2
    go_ret
    exact ⟨ret_int H.out, rfl⟩
  · have ha := smallU_lo c h
    have H := Lib.hid ha; clear ha
    by_cases h2 : (65 : Int) ≤ (c.toNat : Int)
    all_goals
      go_enter Try.func71, Try.ntmps71
      go_wp2
      try (exfalso; omega)
      try (go_ret; exact ⟨ret_int H.out, rfl⟩)


/-! ### octets -/

section
attribute [local go_sem] Oper.semAt_some

end

/-! ### appendOctet -/

def specialU (c : UInt8) : Bool := decide (c.toNat = 46 ∨ c.toNat = 92 ∨ c.toNat = 34 ∨ c.toNat = 40 ∨ c.toNat = 41 ∨ c.toNat = 59 ∨ c.toNat = 64 ∨ c.toNat = 36)
def octetW (c : UInt8) : List UInt8 :=
  if specialU c then [92, c] else if c.toNat < 33 ∨ 126 < c.toNat then [92, 48 + c / 100, 48 + c / 10 % 10, 48 + c % 10] else [c]

def octetEsc (c : UInt8) : List UInt8 := [92, 48 + c / 100, 48 + c / 10 % 10, 48 + c % 10]

theorem octetW_special {c : UInt8} (h : specialU c = true) : octetW c = [92, c] := by simp [octetW, h]
theorem octetW_esc {c : UInt8} (h : specialU c = false) (h2 : (c.toNat : Int) < 33 ∨ 126 < (c.toNat : Int)) : octetW c = octetEsc c := by
  have : c.toNat < 33 ∨ 126 < c.toNat := by omega
  simp [octetW, h, this, octetEsc]
theorem octetW_plain {c : UInt8} (h : specialU c = false) (h2 : 33 ≤ (c.toNat : Int)) (h3 : (c.toNat : Int) ≤ 126) : octetW c = [c] := by
  have : ¬ (c.toNat < 33 ∨ 126 < c.toNat) := by omega
  simp [octetW, h, this]

theorem sp_of {c : UInt8} (n : Int) (hn : n = 46 ∨ n = 92 ∨ n = 34 ∨ n = 40 ∨ n = 41 ∨ n = 59 ∨ n = 64 ∨ n = 36) (h : ((c.toNat : Int) == n) = true) : specialU c = true := by
  simp only [beq_iff_eq] at h
  unfold specialU; apply decide_eq_true; omega
theorem sp_not {c : UInt8} (h1 : ((c.toNat : Int) == 46) = false) (h2 : ((c.toNat : Int) == 92) = false) (h3 : ((c.toNat : Int) == 34) = false) (h4 : ((c.toNat : Int) == 40) = false)
    (h5 : ((c.toNat : Int) == 41) = false) (h6 : ((c.toNat : Int) == 59) = false) (h7 : ((c.toNat : Int) == 64) = false) (h8 : ((c.toNat : Int) == 36) = false) : specialU c = false := by
  simp only [beq_eq_false_iff_ne, ne_eq] at h1 h2 h3 h4 h5 h6 h7 h8
  unfold specialU; apply decide_eq_false; omega
theorem esc_cells (c : UInt8) : [Value.int .u8 92, .int .u8 (48 + (c.toNat : Int) / 100), .int .u8 (48 + (c.toNat : Int) / 10 % 10), .int .u8 (48 + (c.toNat : Int) % 10)] = (octetEsc c).map bv := by
  have := c.toNat_lt
  simp only [octetEsc, List.map_cons, List.map_nil, bv, UInt8.toNat_add, UInt8.toNat_div, UInt8.toNat_mod, UInt8.reduceToNat]
  have e1 : (48 + c.toNat / 100) % 2 ^ 8 = 48 + c.toNat / 100 := by omega
  have e2 : (48 + c.toNat / 10 % 10) % 2 ^ 8 = 48 + c.toNat / 10 % 10 := by omega
  have e3 : (48 + c.toNat % 10) % 2 ^ 8 = 48 + c.toNat % 10 := by omega
  rw [e1, e2, e3]
  simp

theorem fin_app {c : UInt8} {v v' : Value} {base : Nat} {xs : List UInt8} {w w1 : World} (l : List UInt8) (e : octetW c = l)
    (hown1 : OwnU8 w1 base v' (xs ++ l)) (hgrow : w.grownBy w1 v.ownBlock) : AppendsU8 base (xs ++ octetW c) w v (.returned v') w1 := by
  subst e; exact ⟨v', rfl, hown1, hgrow⟩

end Go.Proofs.Ytckammgnmgkieaa

/-
  Contract of label.Text: the words of any octets.
-/
namespace Go.Proofs.Ytckammgnmgkieaa
set_option maxRecDepth 20000
open Go.RowKit Go.Shelf

def textL (l : List UInt8) : List UInt8 := l.flatMap octetW
theorem textL_snoc (l : List UInt8) (c : UInt8) : textL (l ++ [c]) = textL l ++ octetW c := by simp [textL]
theorem octetW_le (c : UInt8) : (octetW c).length ≤ 4 := by unfold octetW; split; · simp
                                                            split <;> simp
theorem textL_le (l : List UInt8) : (textL l).length ≤ 4 * l.length := by
  induction l with
  | nil => simp [textL]
  | cons c l ih => have := octetW_le c; simp only [textL, List.flatMap_cons, List.length_append, List.length_cons] at ih ⊢; omega

section
attribute [local go_sem] Oper.semAt_some

end

end Go.Proofs.Ytckammgnmgkieaa

/-
  The shelf's contracts at this dump that the proofs of this seat use (cut out of what the kit's lay-plain writes).
-/
namespace Go.Proofs
open Go.Shelf
end Go.Proofs

