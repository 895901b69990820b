/-
  Package name's iterators: labels (from the first label on), upward (from the root's side on). An element is an index of the name.
-/
import Derived.Test.YteppgeiejknhoaaMQ23
import Derived.Test.YteppgeiejknhoaaMQ36
import Derived.Test.YteppgeiejknhoaaMQ32
namespace Go.Proofs.Yteppgeiejknhoaa
set_option maxRecDepth 20000
open Go.RowKit Go.Shelf

/-- The block of a slice's cells (of none, if it has none). -/
def rowOf : Value → Option Nat
  | .slice (some a) (_ + 1) _ => some a.block
  | _ => none
theorem rowOf_at {a : Addr} {n c k : Nat} (h : k < n) : rowOf (.slice (some a) n c) = some a.block := by
  cases n with
  | zero => omega
  | succ n => rfl
theorem StrsAt.row_lt {W : World} {v : Value} {xs : List (List UInt8)} (h : StrsAt W v xs) : ∀ g, rowOf v = some g → g < W.heap.size := by
  obtain ⟨a, c, rfl, hx⟩ := h
  intro g hg
  rcases hx with e | ⟨b, off, rfl, hb, _⟩
  · subst e; cases a <;> cases hg
  · cases xs with
    | nil => cases hg
    | cons x r => cases hg; exact hb
/-- What a round must keep: the box of the variable, the cells. -/
def KeepN (b : Nat) (v : Value) (W W' : World) : Prop := KeepB b W W' ∧ ∀ g, rowOf v = some g → KeepB g W W'
theorem KeepN.refl (b : Nat) (v : Value) (W : World) : KeepN b v W W := ⟨KeepB.refl _ _, fun _ _ => KeepB.refl _ _⟩
theorem KeepN.trans {b : Nat} {v : Value} {A B C : World} (h : KeepN b v A B) (k : KeepN b v B C) : KeepN b v A C := ⟨h.1.trans k.1, fun g e => (h.2 g e).trans (k.2 g e)⟩
/-- A slice of strings that lies below a mark. -/
def StrsIn (n₀ : Nat) (W : World) (v : Value) (xs : List (List UInt8)) : Prop :=
  ∃ a c, v = .slice a xs.length c ∧ (xs = [] ∨ ∃ b off, a = some ⟨b, off, none⟩ ∧ b < n₀ ∧ ∀ j (hj : j < xs.length), W.cell? ⟨b, off + j, none⟩ = some (strV xs[j]))
theorem StrsAt.in {W : World} {v : Value} {xs : List (List UInt8)} (h : StrsAt W v xs) : StrsIn W.heap.size W v xs := h

theorem KeepN.setCell {b c : Nat} {v : Value} (W : World) (u : Value) (hb : b ≠ c) (hg : ∀ g, rowOf v = some g → g ≠ c) : KeepN b v W (W.setCell ⟨c, 0, none⟩ u) := ⟨KeepB.setCell _ _ hb, fun g e => KeepB.setCell _ _ (hg g e)⟩
theorem KeepN.alloc {b : Nat} {v : Value} (W : World) (o : Obj) (hb : b < W.heap.size) (hg : ∀ g, rowOf v = some g → g < W.heap.size) : KeepN b v W (W.alloc o) := ⟨KeepB.alloc _ _ hb, fun g e => KeepB.alloc _ _ (hg g e)⟩
theorem KeepN.below {b n : Nat} {v : Value} {W W' : World} (h : Below n W W') (hb : b < n) (hg : ∀ g, rowOf v = some g → g < n) : KeepN b v W W' := ⟨h.block b hb, fun g e => h.block g (hg g e)⟩
theorem keepN_t {b : Nat} {v : Value} {A B C : World} (h : KeepN b v A B) (k : KeepN b v B C) : KeepN b v A C := h.trans k
theorem keepN_b {b : Nat} {v : Value} {w : World} (hb : b < w.heap.size) (hg : ∀ g, rowOf v = some g → g < w.heap.size) (W : World) (l : Nat) (o o' : Obj) (hl : w.heap.size ≤ l) (h : W.heap[l]? = some o) (h1 : o.isCells = false) (h2 : o.isWalk = false) : KeepN b v W (W.putObj l o') :=
  ⟨keepB_b hb W l o o' hl h h1 h2, fun g e => keepB_b (hg g e) W l o o' hl h h1 h2⟩
theorem KeepN.strs {b : Nat} {v : Value} {xs : List (List UInt8)} {W W' : World} (h : KeepN b v W W') (hA : StrsAt W v xs) (hs : W.heap.size ≤ W'.heap.size) : StrsAt W' v xs := by
  obtain ⟨a, c, rfl, hx⟩ := hA
  refine ⟨a, c, rfl, ?_⟩
  rcases hx with e | ⟨g, off, rfl, hg, hc⟩
  · exact .inl e
  · exact .inr ⟨g, off, rfl, Nat.lt_of_lt_of_le hg hs, fun j hj => ((h.2 g (rowOf_at hj)).cell).trans (hc j hj)⟩

def idxV (xs : List (List UInt8)) (j : Fin xs.length) : Array Value := #[.int .i64 (j.val : Int), strV xs[j]]

section
attribute [local go_sem] Oper.semAt_some

theorem finRange_take_succ {n k : Nat} (h : k < n) : (List.finRange n).take (k + 1) = (List.finRange n).take k ++ [⟨k, h⟩] := by
  rw [List.take_succ_eq_append_getElem (by simpa using h)]; simp

set_option maxRecDepth 100000 in
set_option maxHeartbeats 1000000 in
theorem labels1_in (n : Nat) (hn : 1 ≤ n) (l b : Nat) (v : Value) (xs : List (List UInt8)) (hs : xs.length ≤ maxLen) (J Jx : List (Fin xs.length) → World → Prop)
    (hY : ∀ pre x W, J pre W → pre.length < xs.length → YieldAt Fence.wide (n - 1) Try.prog l (idxV xs x) W fun e W' =>
      (e = .returned (.bool true) ∧ J (pre ++ [x]) W' ∧ KeepN b v W W') ∨ (e = .returned (.bool false) ∧ Jx (pre ++ [x]) W'))
    (W : World) (hc : W.cell? ⟨b, 0, none⟩ = some v) (hA : ∃ a c, v = .slice a xs.length c ∧ (xs = [] ∨ ∃ g off, a = some ⟨g, off, none⟩ ∧ ∀ j (hj : j < xs.length), W.cell? ⟨g, off + j, none⟩ = some (strV xs[j]))) (h0 : J [] W) :
    CallsIn Fence.wide n Try.prog 67 #[.func (.yield l) #[] #[], .pointer (some ⟨b, 0, none⟩)] W fun e W' => (∃ v, e = .returned v) ∧
      ((∃ ys, ys = List.finRange xs.length ∧ J ys W') ∨ (∃ pre, pre <+: List.finRange xs.length ∧ Jx pre W')) := by
  unfold maxLen at hs
  obtain ⟨a, c, rfl, hx⟩ := hA
  refine callsIn_of_wp Try.func67 rfl trivial ?_ rfl
  simp only [Try.ntmps67, List.size_toArray, List.length_cons, List.length_nil, Nat.reduceAdd, Nat.reduceSub, Array.replicate_succ, Array.replicate_zero, List.push_toArray, List.append_toArray, List.nil_append, List.cons_append]
  gi_wp2
  gi_loopw [7] (fun i wr => ∃ k : Nat, k ≤ xs.length ∧ i = .int .i64 k ∧ J ((List.finRange xs.length).take k) wr ∧ KeepN b (.slice a xs.length c) W wr)
    (fun i _ => xs.length - (intOf i).toNat)
  case atStart => exact ⟨0, Nat.zero_le _, rfl, h0, KeepN.refl _ _ _⟩
  case round =>
    obtain ⟨k, hk, rfl, hJs, hnx⟩ := hrel
    by_cases hlt : k < xs.length
    · rcases hx with e | ⟨g, off, rfl, hcells⟩
      · subst e; simp at hlt
      have hcell : wr.cell? ⟨g, off + k, none⟩ = some (strV xs[k]) := ((hnx.2 g (rowOf_at hlt)).cell).trans (hcells k hlt)
      obtain ⟨fn, tmps, assign, body, hy, hR⟩ := hY _ ⟨k, hlt⟩ wr hJs (by simp; omega)
      have hcb : wr.cell? ⟨b, 0, none⟩ = some (.slice (some ⟨g, off, none⟩) xs.length c) := hnx.1.cell.trans hc
      unfold idxV at hy
      generalize hsv : strV xs[k] = sv at *
      dsimp only at hy
      clear hcells hsv
      gi_wp2
      refine hR.mono ?_
      rintro e W3 (⟨rfl, hJ3, hk3⟩ | ⟨rfl, hJx3⟩)
      · gi_wp2
        go_roundw
        case rel => exact ⟨k + 1, by omega, by simp, by rw [finRange_take_succ hlt]; exact hJ3, hnx.trans hk3⟩
        case measure => simp [intOf]; omega
      · gi_wp2
        refine bodyPost_ret (results_none rfl _ _ _) rfl ?_
        exact ⟨⟨_, rfl⟩, .inr ⟨_, by rw [← finRange_take_succ hlt]; exact List.take_prefix _ _, hJx3⟩⟩
    · obtain rfl : k = xs.length := by omega
      gi_wp2
      go_end0
      exact ⟨⟨_, rfl⟩, .inl ⟨_, by rw [List.take_of_length_le (by simp)], hJs⟩⟩

theorem finRev_succ {n k : Nat} (h : k < n) : (List.finRange n).reverse.take (n - k) = (List.finRange n).reverse.take (n - (k + 1)) ++ [⟨k, h⟩] := by
  rw [show n - k = n - (k + 1) + 1 by omega, List.take_succ_eq_append_getElem (by simp; omega)]
  congr 1
  simp only [List.getElem_reverse, List.length_finRange, List.getElem_finRange, List.cons.injEq, and_true]
  apply Fin.ext; simp; omega

set_option maxRecDepth 100000 in
set_option maxHeartbeats 1000000 in
theorem upward1_in (n : Nat) (hn : 1 ≤ n) (l b : Nat) (v : Value) (xs : List (List UInt8)) (hs : xs.length ≤ maxLen) (J Jx : List (Fin xs.length) → World → Prop)
    (hY : ∀ pre x W, J pre W → pre.length < xs.length → YieldAt Fence.wide (n - 1) Try.prog l (idxV xs x) W fun e W' =>
      (e = .returned (.bool true) ∧ J (pre ++ [x]) W' ∧ KeepN b v W W') ∨ (e = .returned (.bool false) ∧ Jx (pre ++ [x]) W'))
    (W : World) (hc : W.cell? ⟨b, 0, none⟩ = some v) (hA : ∃ a c, v = .slice a xs.length c ∧ (xs = [] ∨ ∃ g off, a = some ⟨g, off, none⟩ ∧ ∀ j (hj : j < xs.length), W.cell? ⟨g, off + j, none⟩ = some (strV xs[j]))) (h0 : J [] W) :
    CallsIn Fence.wide n Try.prog 57 #[.func (.yield l) #[] #[], .pointer (some ⟨b, 0, none⟩)] W fun e W' => (∃ v, e = .returned v) ∧
      ((∃ ys, ys = (List.finRange xs.length).reverse ∧ J ys W') ∨ (∃ pre, pre <+: (List.finRange xs.length).reverse ∧ Jx pre W')) := by
  unfold maxLen at hs
  obtain ⟨a, c, rfl, hx⟩ := hA
  refine callsIn_of_wp Try.func57 rfl trivial ?_ rfl
  simp only [Try.ntmps57, List.size_toArray, List.length_cons, List.length_nil, Nat.reduceAdd, Nat.reduceSub, Array.replicate_succ, Array.replicate_zero, List.push_toArray, List.append_toArray, List.nil_append, List.cons_append]
  gi_wp2
  gi_loopw [3] (fun i wr => ∃ k : Nat, k ≤ xs.length ∧ i = .int .i64 ((k : Int) - 1) ∧ J ((List.finRange xs.length).reverse.take (xs.length - k)) wr ∧ KeepN b (.slice a xs.length c) W wr)
    (fun i _ => (intOf i + 1).toNat)
  case atStart => exact ⟨xs.length, Nat.le_refl _, rfl, by simpa using h0, KeepN.refl _ _ _⟩
  case round =>
    obtain ⟨k, hk, rfl, hJs, hnx⟩ := hrel
    rcases k with _ | k
    · gi_wp2
      go_end0
      exact ⟨⟨_, rfl⟩, .inl ⟨_, by rw [List.take_of_length_le (by simp)], hJs⟩⟩
    · have hlt : k < xs.length := hk
      rcases hx with e | ⟨g, off, rfl, hcells⟩
      · subst e; simp at hlt
      have hcell : wr.cell? ⟨g, off + k, none⟩ = some (strV xs[k]) := ((hnx.2 g (rowOf_at hlt)).cell).trans (hcells k hlt)
      obtain ⟨fn, tmps, assign, body, hy, hR⟩ := hY _ ⟨k, hlt⟩ wr hJs (by simp; omega)
      have hcb : wr.cell? ⟨b, 0, none⟩ = some (.slice (some ⟨g, off, none⟩) xs.length c) := hnx.1.cell.trans hc
      have hk1 : ((k + 1 : Nat) : Int) - 1 = (k : Int) := by omega
      rw [hk1]
      unfold idxV at hy
      generalize hsv : strV xs[k] = sv at *
      dsimp only at hy
      clear hcells hsv hk1
      gi_wp2
      refine hR.mono ?_
      rintro e W3 (⟨rfl, hJ3, hk3⟩ | ⟨rfl, hJx3⟩)
      · gi_wp2
        go_roundw
        case rel => exact ⟨k, by omega, by go_num, by rw [finRev_succ hlt]; exact hJ3, hnx.trans hk3⟩
        case measure => simp [intOf]
      · gi_wp2
        refine bodyPost_ret (results_none rfl _ _ _) rfl ?_
        exact ⟨⟨_, rfl⟩, .inr ⟨_, by rw [← finRev_succ hlt]; exact List.take_prefix _ _, hJx3⟩⟩

theorem labels_stops (n : Nat) (hn : 1 ≤ n) (b : Nat) (v : Value) (xs : List (List UInt8)) (hs : xs.length ≤ maxLen) (w : World) (hb : b < w.heap.size)
    (hc : w.cell? ⟨b, 0, none⟩ = some v) (hA : StrsAt w v xs) :
    SeqStopsK Fence.wide n Try.prog 67 #[.pointer (some ⟨b, 0, none⟩)] (idxV xs) (KeepN b v) (fun ys => ys = List.finRange xs.length) (fun pre => pre <+: List.finRange xs.length) xs.length w := fun l J Jx W hW _ _ hY h0 => by
  refine labels1_in n hn l b v xs hs J Jx hY W ((hW.cell (p := ⟨b, 0, none⟩) hb).trans hc) ?_ h0
  obtain ⟨a, c, e, h⟩ := hA
  exact ⟨a, c, e, h.imp id fun ⟨g, off, ea, hg, hcs⟩ => ⟨g, off, ea, fun j hj => (hW.cell (p := ⟨g, off + j, none⟩) hg).trans (hcs j hj)⟩⟩
theorem upward_stops (n : Nat) (hn : 1 ≤ n) (b : Nat) (v : Value) (xs : List (List UInt8)) (hs : xs.length ≤ maxLen) (w : World) (hb : b < w.heap.size)
    (hc : w.cell? ⟨b, 0, none⟩ = some v) (hA : StrsAt w v xs) :
    SeqStopsK Fence.wide n Try.prog 57 #[.pointer (some ⟨b, 0, none⟩)] (idxV xs) (KeepN b v) (fun ys => ys = (List.finRange xs.length).reverse) (fun pre => pre <+: (List.finRange xs.length).reverse) xs.length w := fun l J Jx W hW _ _ hY h0 => by
  refine upward1_in n hn l b v xs hs J Jx hY W ((hW.cell (p := ⟨b, 0, none⟩) hb).trans hc) ?_ h0
  obtain ⟨a, c, e, h⟩ := hA
  exact ⟨a, c, e, h.imp id fun ⟨g, off, ea, hg, hcs⟩ => ⟨g, off, ea, fun j hj => (hW.cell (p := ⟨g, off + j, none⟩) hg).trans (hcs j hj)⟩⟩

set_option maxHeartbeats 400000 in
theorem name_labels (a : Option Addr) (n c : Nat) (w : World) :
    Calls Try.prog 39 #[.slice a n c] w fun e w' => e = .returned (.func (.func 67) #[] #[.pointer (some ⟨w.heap.size, 0, none⟩)]) ∧ w' = w.alloc (.cells #[.slice a n c] 23) := by
  go_enter Try.func39, Try.ntmps39
  go_wp2
  go_ret
  exact ⟨rfl, rfl⟩
set_option maxHeartbeats 400000 in
theorem name_upward (a : Option Addr) (n c : Nat) (w : World) :
    Calls Try.prog 31 #[.slice a n c] w fun e w' => e = .returned (.func (.func 57) #[] #[.pointer (some ⟨w.heap.size, 0, none⟩)]) ∧ w' = w.alloc (.cells #[.slice a n c] 23) := by
  go_enter Try.func31, Try.ntmps31
  go_wp2
  go_ret
  exact ⟨rfl, rfl⟩
end
end Go.Proofs.Yteppgeiejknhoaa

/-
  Contracts of name.Len and name.Check.
-/
namespace Go.Proofs.Yteppgeiejknhoaa
set_option maxRecDepth 20000
open Go.RowKit Go.Shelf

/-- A name of a size that a machine bears. -/
def NmOK (xs : Nm) : Prop := xs.length ≤ 1048576 ∧ ∀ x ∈ xs, x.length ≤ 1048576
theorem NmOK.get {xs : Nm} (h : NmOK xs) (j : Nat) (hj : j < xs.length) : xs[j].length ≤ 1048576 := h.2 _ (List.getElem_mem hj)
theorem map_fin (xs : Nm) : (List.finRange xs.length).map (fun j => xs[j]) = xs := by
  apply List.ext_getElem (by simp)
  intro j h1 h2; simp
def sumN (xs : Nm) (pre : List (Fin xs.length)) : Nat := lenN (pre.map fun j => xs[j])
theorem sumN_le {xs : Nm} (h : NmOK xs) (pre : List (Fin xs.length)) : sumN xs pre ≤ 1 + pre.length * 1048577 := by
  unfold sumN
  induction pre with
  | nil => simp [lenN]
  | cons j r ih =>
    have := h.get j.val j.isLt
    simp only [List.map_cons, lenN_cons, List.length_cons, Fin.getElem_fin] at ih ⊢
    omega
theorem sumN_snoc (xs : Nm) (pre : List (Fin xs.length)) (j : Fin xs.length) : sumN xs (pre ++ [j]) = sumN xs pre + 1 + xs[j].length := by
  unfold sumN; rw [List.map_append]; exact lenN_snoc _ _

section
attribute [local go_sem] Oper.semAt_some
end
end Go.Proofs.Yteppgeiejknhoaa

/-
  A result that lies in a box; facts on a round's end.
-/
namespace Go.Proofs.Yteppgeiejknhoaa
set_option maxRecDepth 20000
open Go.RowKit Go.Shelf

theorem results_cell {fn : Func} {t : Tmp} {T : TypeId} {k : IntKind} (h : fn.results = #[.cell t T]) (hT : Try.prog.underlying T = some (.int k)) (tmps : Array Value) (W : World) {b : Nat} {v : Value}
    (ht : tmps.getD t undef = .pointer (some ⟨b, 0, none⟩)) (hc : W.cell? ⟨b, 0, none⟩ = some v) : (results fn tmps).run Try.prog W = .ok v W := by
  have ht' : tmps[t]?.getD undef = .pointer (some ⟨b, 0, none⟩) := by rw [← ht]; simp
  have hu : ∀ w, Sem.run Try.prog (underlying T) w = .ok _ w := run_underlying hT
  simp [results, h, ht', loadVar, asAddr, go_sem, hu, hc, isAgg]
theorem results_cellB {fn : Func} {t : Tmp} {T : TypeId} (h : fn.results = #[.cell t T]) (hT : Try.prog.underlying T = some .bool) (tmps : Array Value) (W : World) {b : Nat} {v : Value}
    (ht : tmps.getD t undef = .pointer (some ⟨b, 0, none⟩)) (hc : W.cell? ⟨b, 0, none⟩ = some v) : (results fn tmps).run Try.prog W = .ok v W := by
  have ht' : tmps[t]?.getD undef = .pointer (some ⟨b, 0, none⟩) := by rw [← ht]; simp
  have hu : ∀ w, Sem.run Try.prog (underlying T) w = .ok _ w := run_underlying hT
  simp [results, h, ht', loadVar, asAddr, go_sem, hu, hc, isAgg]
theorem out_cell {W : World} {h D : Nat} {T : TypeId} {v : Value} (hb : Boxed W h T v) (hne : h ≠ D) (o : Obj) : (W.putObj D o).cell? ⟨h, 0, none⟩ = some v :=
  (hb.kept (grownBy_putObj' W D o) (by intro e; cases e; exact hne rfl)).cell
theorem heap_setOther {W : World} {h D : Nat} {o : Obj} (hK : W.heap[D]? = some o) (hne : D ≠ h) (u : Value) : (W.setCell ⟨h, 0, none⟩ u).heap[D]? = some o := by
  rw [Below.heap_setCell W ⟨h, 0, none⟩ u D hne]; exact hK
theorem heap_below {W W' : World} {D : Nat} {o : Obj} (hK : W.heap[D]? = some o) (hb : Below W.heap.size W W') : W'.heap[D]? = some o :=
  (hb.block D (Array.getElem?_eq_some_iff.1 hK).1).trans hK
theorem below_putO {n D : Nat} {w W : World} {o' : Obj} (h : Below n w W) (hD : n ≤ D) (hn : n ≤ w.heap.size) : Below n w (W.putObj D o') :=
  h.trans ((Below.refl n W).grown (grownBy_putObj' W D o') (Nat.le_trans hn h.size) (fun k e => by cases e; exact hD))
end Go.Proofs.Yteppgeiejknhoaa

/-
  Contract of name.Check.
-/
namespace Go.Proofs.Yteppgeiejknhoaa
set_option maxRecDepth 20000
open Go.RowKit Go.Shelf

/-- The labels of the indexes. -/
def atN (xs : Nm) (pre : List (Fin xs.length)) : Nm := pre.map fun j => xs[j]
theorem atN_snoc (xs : Nm) (pre : List (Fin xs.length)) (j : Fin xs.length) : atN xs (pre ++ [j]) = atN xs pre ++ [xs[j]] := by simp [atN]
theorem atN_all (xs : Nm) : atN xs (List.finRange xs.length) = xs := map_fin xs
theorem atN_prefix {xs : Nm} {pre : List (Fin xs.length)} (h : pre <+: List.finRange xs.length) : atN xs pre <+: xs := by
  have := h.map fun j => xs[j]; rwa [map_fin] at this

section
attribute [local go_sem] Oper.semAt_some
end
end Go.Proofs.Yteppgeiejknhoaa

/-
  Contract of name.Same.
-/
namespace Go.Proofs.Yteppgeiejknhoaa
set_option maxRecDepth 20000
open Go.RowKit Go.Shelf

theorem KeepN.drewN {b : Nat} {v : Value} (W : World) (n : Nat) : KeepN b v W (W.drewN n) := ⟨rfl, fun _ _ => rfl⟩
theorem keepsOthers_drewN (W : World) (n : Nat) : KeepsOthers W (W.drewN n) := ⟨Nat.le_refl _, fun _ _ h _ => h⟩
theorem below_drewQ {B : Nat} {a w : World} (h : Below B a w) (n : Nat) : Below B a (w.drewN n) := h.trans ⟨rfl, rfl, rfl, Nat.le_refl _, fun _ _ => rfl⟩
/-- The cell of a label. -/
theorem StrsAt.cell {W W' : World} {a : Option Addr} {c : Nat} {xs : Nm} (h : StrsAt W (.slice a xs.length c) xs) (hb : Below W.heap.size W W') (j : Nat) (hj : j < xs.length) :
    ∃ g off, a = some ⟨g, off, none⟩ ∧ g < W.heap.size ∧ W'.cell? ⟨g, off + j, none⟩ = some (strV xs[j]) := by
  obtain ⟨a', c', e, hx⟩ := h
  cases e
  rcases hx with e | ⟨g, off, rfl, hg, hc⟩
  · subst e; simp at hj
  · exact ⟨g, off, rfl, hg, (hb.cell (p := ⟨g, off + j, none⟩) hg).trans (hc j hj)⟩
theorem str_at {l : List UInt8} {s : ByteArray} (h : strV l = .string s) : (⟨l.toArray⟩ : ByteArray) = s := by unfold strV at h; cases h; rfl

section
attribute [local go_sem] Oper.semAt_some
set_option maxRecDepth 100000 in
set_option maxHeartbeats 2000000 in
theorem name_Same (v u : Value) (xs ys : Nm) (w : World) (hA : StrsAt w v xs) (hU : StrsAt w u ys) (hk : NmOK xs) (hk2 : NmOK ys) :
    Calls Try.prog 16 #[v, u] w fun e w' => e = .returned (.bool (sameN xs ys)) ∧ Below w.heap.size w w' := by
  obtain ⟨a, c, rfl, _⟩ := id hA
  obtain ⟨a2, c2, rfl, _⟩ := id hU
  refine (callsIn_wide (n := 5)).1 ?_
  refine callsIn_of_wp_marks Try.func16 rfl trivial ?_ rfl
  simp only [Try.ntmps16, List.size_toArray, List.length_cons, List.length_nil, Nat.reduceAdd, Nat.reduceSub, Array.replicate_succ, Array.replicate_zero, List.push_toArray, List.append_toArray, List.nil_append, List.cons_append]
  by_cases hne : ((xs.length : Int) != (ys.length : Int)) = true
  · have h0 : sameN xs ys = false := sameN_len (by intro e; rw [e] at hne; simp at hne)
    have H0 := Lib.hid h0; clear h0
    gi_wp2
    have hI : Boxed ((w.alloc (.cells #[.slice a2 ys.length c2] 23)).alloc (.cells #[.bool false] 4)) (w.heap.size + 1) 4 (.bool false) := by
      have := Boxed.new (w.alloc (.cells #[.slice a2 ys.length c2] 23)) 4 (.bool false)
      rwa [World.size_alloc] at this
    refine ⟨_, results_cellB rfl Try.underlying4 _ _ rfl hI.cell, by rw [H0.out], ?_⟩
    exact ((Below.refl _ w).alloc (Nat.le_refl _) _).alloc (by simp) _
  have hlen : ((xs.length : Int) != (ys.length : Int)) = false := by simpa using hne
  have hel : xs.length = ys.length := by simp at hlen; omega
  have HE := Lib.hid hel; clear hel hne
  gi_wp2_with (refine ⟨trivial, ?_⟩; gi_at_call 39; refine (callsIn_wide.2 (name_labels _ _ _ _)).mono ?_; rintro e w' ⟨rfl, rfl⟩)
  obtain ⟨W0, hW0⟩ : ∃ W0, (((w.alloc (.cells #[.slice a2 ys.length c2] 23)).alloc (.cells #[.bool false] 4)).alloc (.cells #[.slice a xs.length c] 23)) = W0 := ⟨_, rfl⟩
  have bU : Boxed W0 w.heap.size 23 (.slice a2 ys.length c2) := by rw [← hW0]; exact ((Boxed.new w _ _).alloc _).alloc _
  have bI : Boxed W0 (w.heap.size + 1) 4 (.bool false) := by
    have := Boxed.new (w.alloc (.cells #[.slice a2 ys.length c2] 23)) 4 (.bool false)
    rw [World.size_alloc] at this
    rw [← hW0]; exact this.alloc _
  have bV : Boxed W0 (w.heap.size + 1 + 1) 23 (.slice a xs.length c) := by
    have := Boxed.new ((w.alloc (.cells #[.slice a2 ys.length c2] 23)).alloc (.cells #[.bool false] 4)) 23 (.slice a xs.length c)
    rw [World.size_alloc, World.size_alloc] at this
    rw [← hW0]; exact this
  have hsz : W0.heap.size = w.heap.size + 3 := by rw [← hW0]; simp
  have hB0 : Below w.heap.size w W0 := by rw [← hW0]; exact (((Below.refl _ w).alloc (Nat.le_refl _) _).alloc (by simp) _).alloc (by simp; omega) _
  have hrow := hA.row_lt
  rw [hW0]
  have HZ := Lib.hid hsz; clear hsz hW0
  refine wpIn_rangeFunc_ownG rfl (by omega) (gf := 67) (lb := #[.pointer (some ⟨w.heap.size + 1 + 1, 0, none⟩)]) rfl trivial (enters_of Try.func67 (by kernel_rfl) rfl)
    (labels_stops _ (by omega) (w.heap.size + 1 + 1) (.slice a xs.length c) xs (by have := hk.1; unfold maxLen; omega) W0 (by rw [HZ.out]; omega) bV.cell (hA.below hB0)) keepN_t (keepN_b (by rw [HZ.out]; omega) (fun g e => by have := hrow g e; rw [HZ.out]; omega)) (Below.refl _ _) (fun _ => rfl)
    (fun pre W => Boxed W w.heap.size 23 (.slice a2 ys.length c2) ∧ Boxed W (w.heap.size + 1) 4 (.bool false) ∧ Below w.heap.size w W ∧ ∀ j ∈ pre, ∀ h : j.val < ys.length, sameM xs[j] ys[j.val] = true)
    (fun k _ W => k = .ret ∧ Boxed W (w.heap.size + 1) 4 (.bool false) ∧ Below w.heap.size w W ∧ sameN xs ys = false)
    (OwnFrom.and (Own.from (boxed_own _ _ _) _) (OwnFrom.and (Own.from (boxed_own _ _ _) _) (OwnFrom.and (ownFrom_below (Nat.le_refl _) (by rw [HZ.out]; omega)) (ownFrom_pure _ _))))
    (fun _ => OwnFrom.and (ownFrom_pure _ _) (OwnFrom.and (Own.from (boxed_own _ _ _) _) (OwnFrom.and (ownFrom_below (Nat.le_refl _) (by rw [HZ.out]; omega)) (ownFrom_pure _ _))))
    ⟨bU, bI, hB0, by simp⟩
    (fun j => { tmps := #[.slice a xs.length c, .slice a2 ys.length c2, undef, .pointer (some ⟨w.heap.size, 0, none⟩), .pointer (some ⟨w.heap.size + 1, 0, none⟩), .int .i64 (j.val : Int), .string ⟨xs[j].toArray⟩, .slice a xs.length c, .int .i64 xs.length, .slice a2 ys.length c2, .int .i64 ys.length, .bool false, .slice a xs.length c, .func (.func 67) #[] #[.pointer (some ⟨w.heap.size + 1 + 1, 0, none⟩)], .int .i64 (j.val : Int), .string ⟨xs[j].toArray⟩, undef, undef, undef, undef, undef, undef, undef], defers := [] }) ?assign ?body ?done ?stop
  case assign =>
    intro l x W K hK
    unfold idxV strV
    gi_wp2
    exact hK
  case body =>
    rintro l pre x W ⟨hU2, hI, hB, hC⟩ hlt
    have cu := hU2.cell
    have c0 := hI.cell; have f0 := hI.frozen
    have hxi : x.val < xs.length := x.isLt
    have hyi : x.val < ys.length := by rw [← HE.out]; exact hxi
    obtain ⟨g, off, rfl, hg, hcell⟩ := hU.cell hB x.val hyi
    have hx1 : xs[x].length ≤ 1048576 := hk.get x.val x.isLt
    have hy1 : ys[x.val].length ≤ 1048576 := hk2.get x.val hyi
    obtain ⟨sx, hsx, hsz, hsv⟩ := str_of xs[x]
    obtain ⟨sy, hsy, hsz2, hsv2⟩ := str_of ys[x.val]
    have hS := fun W => label_Same sx sy W (by unfold maxLen; omega) (by unfold maxLen; omega)
    rw [hsx, hsy] at hS
    rw [str_at hsv]
    rw [hsv2] at hcell
    generalize hq : sameM xs[x] ys[x.val] = q at *
    have HQ := Lib.hid hq
    clear hsx hsy hsz hsz2 hsv hsv2 hx1 hy1 hq
    cases q with
    | true =>
      gi_wp2_with (refine ⟨trivial, ?_⟩; gi_at_call 32; refine (CallsIn.inRound l (callsIn_wide.2 (hS _))).mono ?_; rintro e w' ⟨rfl, n, rfl⟩)
      refine ⟨(keepsOthers_drewN _ _).from _, KeepN.drewN _ _, hU2, hI, below_drewQ hB _, ?_⟩
      intro j hj h
      rcases List.mem_append.1 hj with hj | hj
      · exact hC j hj h
      · obtain rfl := List.mem_singleton.1 hj; exact HQ.out
    | false =>
      have H0 : Hid (sameN xs ys = false) := Lib.hid (sameN_not_get x.val hxi hyi HQ.out)
      gi_wp2_with (refine ⟨trivial, ?_⟩; gi_at_call 32; refine (CallsIn.inRound l (callsIn_wide.2 (hS _))).mono ?_; rintro e w' ⟨rfl, n, rfl⟩)
      refine ⟨((keepsOthers_drewN _ _).trans (KeepsOthers.setCell _ _ _)).from _, rfl, ?_, ?_, H0.out⟩
      · exact Boxed.set (.bool false) (show Boxed (W.drewN n) (w.heap.size + 1) 4 (.bool false) from hI)
      · exact (below_drewQ hB _).setCell (p := ⟨w.heap.size + 1, 0, none⟩) (by simp) _
  case done =>
    rintro D zs W hD rfl ⟨hU2, hI, hB, hC⟩ hK
    have c0 := hI.cell; have f0 := hI.frozen
    have hDn : w.heap.size + 1 ≠ D := by have := HZ.out; omega
    have hS : sameN xs ys = true := sameN_of_get HE.out (fun j h1 h2 => hC ⟨j, h1⟩ (List.mem_finRange _) h2)
    have HS := Lib.hid hS; clear hS hC
    gi_wp2
    refine ⟨by simp, .inl ⟨_, _, rfl, run_takeDeferred (heap_setOther hK hDn.symm _), ?_⟩⟩
    refine ⟨_, results_cellB rfl Try.underlying4 _ _ rfl (out_cell (hI.set _) hDn _), by rw [HS.out], ?_⟩
    exact below_putO (hB.setCell (p := ⟨w.heap.size + 1, 0, none⟩) (by simp) _) (by have := HZ.out; omega) (Nat.le_refl _)
  case stop =>
    rintro D c pre W hD hp ⟨rfl, hI, hB, hC⟩ hK
    have hDn : w.heap.size + 1 ≠ D := by have := HZ.out; omega
    have HC := Lib.hid hC; clear hC
    gi_wp2
    refine ⟨by simp, .inl ⟨_, _, rfl, run_takeDeferred hK, ?_⟩⟩
    refine ⟨_, results_cellB rfl Try.underlying4 _ _ rfl (out_cell hI hDn _), by rw [HC.out], ?_⟩
    exact below_putO hB (by have := HZ.out; omega) (Nat.le_refl _)
end
end Go.Proofs.Yteppgeiejknhoaa

/-
  Contract of name.Under.
-/
namespace Go.Proofs.Yteppgeiejknhoaa
set_option maxRecDepth 20000
open Go.RowKit Go.Shelf

theorem underN_of_get {xs zs : Nm} {d : Nat} (h : xs.length = d + zs.length) (hs : ∀ j (h1 : d + j < xs.length) (h2 : j < zs.length), sameM xs[d + j] zs[j] = true) : underN xs zs = true := by
  unfold underN
  rw [decide_eq_true (by omega), Bool.true_and, show xs.length - zs.length = d by omega]
  refine sameN_of_get (by simp; omega) (fun j h1 h2 => ?_)
  rw [List.getElem_drop]
  exact hs j _ h2
theorem underN_not_get {xs zs : Nm} {d : Nat} (h : xs.length = d + zs.length) (j : Nat) (h1 : d + j < xs.length) (h2 : j < zs.length) (hs : sameM xs[d + j] zs[j] = false) : underN xs zs = false := by
  unfold underN
  rw [decide_eq_true (by omega), Bool.true_and, show xs.length - zs.length = d by omega]
  refine sameN_not_get j (by simp; omega) h2 ?_
  rw [List.getElem_drop]; exact hs
theorem underN_short {xs zs : Nm} (h : xs.length < zs.length) : underN xs zs = false := by
  unfold underN; rw [decide_eq_false (by omega), Bool.false_and]

section
attribute [local go_sem] Oper.semAt_some
set_option maxRecDepth 100000 in
set_option maxHeartbeats 2000000 in
theorem name_Under (v u : Value) (xs zs : Nm) (w : World) (hA : StrsAt w v xs) (hU : StrsAt w u zs) (hk : NmOK xs) (hk2 : NmOK zs) :
    Calls Try.prog 11 #[v, u] w fun e w' => e = .returned (.bool (underN xs zs)) ∧ Below w.heap.size w w' := by
  obtain ⟨a, c, rfl, _⟩ := id hA
  obtain ⟨a2, c2, rfl, _⟩ := id hU
  have hl1 := hk.1
  have hl2 := hk2.1
  refine (callsIn_wide (n := 5)).1 ?_
  refine callsIn_of_wp_marks Try.func11 rfl trivial ?_ rfl
  simp only [Try.ntmps11, List.size_toArray, List.length_cons, List.length_nil, Nat.reduceAdd, Nat.reduceSub, Array.replicate_succ, Array.replicate_zero, List.push_toArray, List.append_toArray, List.nil_append, List.cons_append]
  by_cases hlt : xs.length < zs.length
  · have h0 : underN xs zs = false := underN_short hlt
    have H0 := Lib.hid h0; clear h0
    have hlt' : (xs.length : Int) - (zs.length : Int) < 0 := by omega
    gi_wp2
    have hI : Boxed ((w.alloc (.cells #[.slice a xs.length c] 23)).alloc (.cells #[.bool false] 4)) (w.heap.size + 1) 4 (.bool false) := by
      have := Boxed.new (w.alloc (.cells #[.slice a xs.length c] 23)) 4 (.bool false)
      rwa [World.size_alloc] at this
    refine ⟨_, results_cellB rfl Try.underlying4 _ _ rfl (hI.alloc _).cell, by rw [H0.out], ?_⟩
    exact (((Below.refl _ w).alloc (Nat.le_refl _) _).alloc (by simp) _).alloc (by simp; omega) _
  obtain ⟨d, hd⟩ : ∃ d, xs.length = d + zs.length := ⟨xs.length - zs.length, by omega⟩
  have hsub : (xs.length : Int) - (zs.length : Int) = (d : Int) := by omega
  have HD := Lib.hid hd; clear hd
  have HS := Lib.hid hsub; clear hsub
  have hge : ¬ (xs.length : Int) - (zs.length : Int) < 0 := by omega
  clear hlt
  gi_wp2_with (refine ⟨trivial, ?_⟩; gi_at_call 31; refine (callsIn_wide.2 (name_upward _ _ _ _)).mono ?_; rintro e w' ⟨rfl, rfl⟩)
  rw [HS.out]
  obtain ⟨W0, hW0⟩ : ∃ W0, ((((w.alloc (.cells #[.slice a xs.length c] 23)).alloc (.cells #[.bool false] 4)).alloc (.cells #[.int .i64 d] 3)).alloc (.cells #[.slice a2 zs.length c2] 23)) = W0 := ⟨_, rfl⟩
  have bN : Boxed W0 w.heap.size 23 (.slice a xs.length c) := by rw [← hW0]; exact (((Boxed.new w _ _).alloc _).alloc _).alloc _
  have bI : Boxed W0 (w.heap.size + 1) 4 (.bool false) := by
    have := Boxed.new (w.alloc (.cells #[.slice a xs.length c] 23)) 4 (.bool false)
    rw [World.size_alloc] at this
    rw [← hW0]; exact (this.alloc _).alloc _
  have bD : Boxed W0 (w.heap.size + 1 + 1) 3 (.int .i64 d) := by
    have := Boxed.new ((w.alloc (.cells #[.slice a xs.length c] 23)).alloc (.cells #[.bool false] 4)) 3 (.int .i64 d)
    rw [World.size_alloc, World.size_alloc] at this
    rw [← hW0]; exact this.alloc _
  have bV : Boxed W0 (w.heap.size + 1 + 1 + 1) 23 (.slice a2 zs.length c2) := by
    have := Boxed.new (((w.alloc (.cells #[.slice a xs.length c] 23)).alloc (.cells #[.bool false] 4)).alloc (.cells #[.int .i64 d] 3)) 23 (.slice a2 zs.length c2)
    rw [World.size_alloc, World.size_alloc, World.size_alloc] at this
    rw [← hW0]; exact this
  have hsz : W0.heap.size = w.heap.size + 4 := by rw [← hW0]; simp
  have hB0 : Below w.heap.size w W0 := by rw [← hW0]; exact ((((Below.refl _ w).alloc (Nat.le_refl _) _).alloc (by simp) _).alloc (by simp; omega) _).alloc (by simp; omega) _
  have hrow := hU.row_lt
  rw [hW0]
  have HZ := Lib.hid hsz; clear hsz hW0
  refine wpIn_rangeFunc_ownG rfl (by omega) (gf := 57) (lb := #[.pointer (some ⟨w.heap.size + 1 + 1 + 1, 0, none⟩)]) rfl trivial (enters_of Try.func57 (by kernel_rfl) rfl)
    (upward_stops _ (by omega) (w.heap.size + 1 + 1 + 1) (.slice a2 zs.length c2) zs (by unfold maxLen; omega) W0 (by rw [HZ.out]; omega) bV.cell (hU.below hB0)) keepN_t (keepN_b (by rw [HZ.out]; omega) (fun g e => by have := hrow g e; rw [HZ.out]; omega)) (Below.refl _ _) (fun _ => rfl)
    (fun pre W => Boxed W w.heap.size 23 (.slice a xs.length c) ∧ Boxed W (w.heap.size + 1) 4 (.bool false) ∧ Boxed W (w.heap.size + 1 + 1) 3 (.int .i64 d) ∧ Below w.heap.size w W ∧ ∀ j ∈ pre, ∀ h : d + j.val < xs.length, sameM xs[d + j.val] zs[j] = true)
    (fun k _ W => k = .ret ∧ Boxed W (w.heap.size + 1) 4 (.bool false) ∧ Below w.heap.size w W ∧ underN xs zs = false)
    (OwnFrom.and (Own.from (boxed_own _ _ _) _) (OwnFrom.and (Own.from (boxed_own _ _ _) _) (OwnFrom.and (Own.from (boxed_own _ _ _) _) (OwnFrom.and (ownFrom_below (Nat.le_refl _) (by rw [HZ.out]; omega)) (ownFrom_pure _ _)))))
    (fun _ => OwnFrom.and (ownFrom_pure _ _) (OwnFrom.and (Own.from (boxed_own _ _ _) _) (OwnFrom.and (ownFrom_below (Nat.le_refl _) (by rw [HZ.out]; omega)) (ownFrom_pure _ _))))
    ⟨bN, bI, bD, hB0, by simp⟩
    (fun j => { tmps := #[.slice a xs.length c, .slice a2 zs.length c2, .pointer (some ⟨w.heap.size, 0, none⟩), undef, .pointer (some ⟨w.heap.size + 1, 0, none⟩), .pointer (some ⟨w.heap.size + 1 + 1, 0, none⟩), .int .i64 (j.val : Int), .string ⟨zs[j].toArray⟩, .slice a xs.length c, .int .i64 xs.length, .slice a2 zs.length c2, .int .i64 zs.length, .int .i64 d, .int .i64 d, .bool false, .slice a2 zs.length c2, .func (.func 57) #[] #[.pointer (some ⟨w.heap.size + 1 + 1 + 1, 0, none⟩)], .int .i64 (j.val : Int), .string ⟨zs[j].toArray⟩, undef, undef, undef, undef, undef, undef, undef, undef, undef], defers := [] }) ?assign ?body ?done ?stop
  case assign =>
    intro l x W K hK
    unfold idxV strV
    gi_wp2
    exact hK
  case body =>
    rintro l pre x W ⟨hN, hI, hD2, hB, hC⟩ hlt
    have cn := hN.cell
    have cd := hD2.cell
    have c0 := hI.cell; have f0 := hI.frozen
    have hzi : x.val < zs.length := x.isLt
    have hxi : d + x.val < xs.length := by have := HD.out; omega
    obtain ⟨g, off, rfl, hg, hcell⟩ := hA.cell hB (d + x.val) hxi
    have hz1 : zs[x].length ≤ 1048576 := hk2.get x.val x.isLt
    have hx1 : xs[d + x.val].length ≤ 1048576 := hk.get (d + x.val) hxi
    obtain ⟨sz, hsz0, hszz, hszv⟩ := str_of zs[x]
    obtain ⟨sx, hsx0, hsxz, hsxv⟩ := str_of xs[d + x.val]
    have hS := fun W => label_Same sx sz W (by unfold maxLen; omega) (by unfold maxLen; omega)
    rw [hsz0, hsx0] at hS
    rw [str_at hszv]
    rw [hsxv] at hcell
    generalize hq : sameM xs[d + x.val] zs[x] = q at *
    have HQ := Lib.hid hq
    clear hsz0 hszz hszv hsx0 hsxz hsxv hx1 hz1 hq
    cases q with
    | true =>
      gi_wp2_with (refine ⟨trivial, ?_⟩; gi_at_call 32; refine (CallsIn.inRound l (callsIn_wide.2 (hS _))).mono ?_; rintro e w' ⟨rfl, n, rfl⟩)
      refine ⟨(keepsOthers_drewN _ _).from _, KeepN.drewN _ _, hN, hI, hD2, below_drewQ hB _, ?_⟩
      intro j hj h
      rcases List.mem_append.1 hj with hj | hj
      · exact hC j hj h
      · obtain rfl := List.mem_singleton.1 hj; exact HQ.out
    | false =>
      have H0 : Hid (underN xs zs = false) := Lib.hid (underN_not_get HD.out x.val hxi hzi HQ.out)
      gi_wp2_with (refine ⟨trivial, ?_⟩; gi_at_call 32; refine (CallsIn.inRound l (callsIn_wide.2 (hS _))).mono ?_; rintro e w' ⟨rfl, n, rfl⟩)
      refine ⟨((keepsOthers_drewN _ _).trans (KeepsOthers.setCell _ _ _)).from _, rfl, ?_, ?_, H0.out⟩
      · exact Boxed.set (.bool false) (show Boxed (W.drewN n) (w.heap.size + 1) 4 (.bool false) from hI)
      · exact (below_drewQ hB _).setCell (p := ⟨w.heap.size + 1, 0, none⟩) (by simp) _
  case done =>
    rintro D ys W hD rfl ⟨hN, hI, hD2, hB, hC⟩ hK
    have c0 := hI.cell; have f0 := hI.frozen
    have hDn : w.heap.size + 1 ≠ D := by have := HZ.out; omega
    have hS : underN xs zs = true := underN_of_get HD.out (fun j h1 h2 => hC ⟨j, h2⟩ (by simp) h1)
    have HT := Lib.hid hS; clear hS hC
    gi_wp2
    refine ⟨by simp, .inl ⟨_, _, rfl, run_takeDeferred (heap_setOther hK hDn.symm _), ?_⟩⟩
    refine ⟨_, results_cellB rfl Try.underlying4 _ _ rfl (out_cell (hI.set _) hDn _), by rw [HT.out], ?_⟩
    exact below_putO (hB.setCell (p := ⟨w.heap.size + 1, 0, none⟩) (by simp) _) (by have := HZ.out; omega) (Nat.le_refl _)
  case stop =>
    rintro D c pre W hD hp ⟨rfl, hI, hB, hC⟩ hK
    have hDn : w.heap.size + 1 ≠ D := by have := HZ.out; omega
    have HC := Lib.hid hC; clear hC
    gi_wp2
    refine ⟨by simp, .inl ⟨_, _, rfl, run_takeDeferred hK, ?_⟩⟩
    refine ⟨_, results_cellB rfl Try.underlying4 _ _ rfl (out_cell hI hDn _), by rw [HC.out], ?_⟩
    exact below_putO hB (by have := HZ.out; omega) (Nat.le_refl _)
end
end Go.Proofs.Yteppgeiejknhoaa

