/-
  Package name's iterators: labels (from the first label on), upward (from the root's side on). An element is an index of the name.
-/
import Derived.Test.YtckammgnmgkieaaGreatMQ37
import Derived.Test.YtckammgnmgkieaaGreatMQ41
import Derived.Test.YtckammgnmgkieaaGreatMQ33
import Derived.Laws.AppendOwnNone
import Derived.Lib.Walk
import Derived.Lib.SliceRun
namespace Go.Proofs.YtckammgnmgkieaaGreat
set_option maxRecDepth 20000
open Go.RowKit Go.Shelf

def rowOf : Value → Option Nat
  | .slice (some a) (_ + 1) _ => some a.block
  | _ => none
theorem rowOf_at {a : Addr} {n c k : Nat} (h : k < n) : rowOf (.slice (some a) n c) = some a.block := by
  cases n with
  | zero => omega
  | succ n => rfl
theorem StrsAt.row_lt {W : World} {v : Value} {xs : List (List UInt8)} (h : StrsAt W v xs) : ∀ g, rowOf v = some g → g < W.heap.size := by
  obtain ⟨a, c, rfl, hx⟩ := h
  intro g hg
  rcases hx with e | ⟨b, off, rfl, hb, _⟩
  · subst e; cases a <;> cases hg
  · cases xs with
    | nil => cases hg
    | cons x r => cases hg; exact hb
def KeepN (b : Nat) (v : Value) (W W' : World) : Prop := KeepB b W W' ∧ ∀ g, rowOf v = some g → KeepB g W W'
theorem KeepN.refl (b : Nat) (v : Value) (W : World) : KeepN b v W W := ⟨KeepB.refl _ _, fun _ _ => KeepB.refl _ _⟩
theorem KeepN.trans {b : Nat} {v : Value} {A B C : World} (h : KeepN b v A B) (k : KeepN b v B C) : KeepN b v A C := ⟨h.1.trans k.1, fun g e => (h.2 g e).trans (k.2 g e)⟩
def StrsIn (n₀ : Nat) (W : World) (v : Value) (xs : List (List UInt8)) : Prop :=
  ∃ a c, v = .slice a xs.length c ∧ (xs = [] ∨ ∃ b off, a = some ⟨b, off, none⟩ ∧ b < n₀ ∧ ∀ j (hj : j < xs.length), W.cell? ⟨b, off + j, none⟩ = some (strV xs[j]))
theorem StrsAt.in {W : World} {v : Value} {xs : List (List UInt8)} (h : StrsAt W v xs) : StrsIn W.heap.size W v xs := h

theorem KeepN.setCell {b c : Nat} {v : Value} (W : World) (u : Value) (hb : b ≠ c) (hg : ∀ g, rowOf v = some g → g ≠ c) : KeepN b v W (W.setCell ⟨c, 0, none⟩ u) := ⟨KeepB.setCell _ _ hb, fun g e => KeepB.setCell _ _ (hg g e)⟩
theorem KeepN.alloc {b : Nat} {v : Value} (W : World) (o : Obj) (hb : b < W.heap.size) (hg : ∀ g, rowOf v = some g → g < W.heap.size) : KeepN b v W (W.alloc o) := ⟨KeepB.alloc _ _ hb, fun g e => KeepB.alloc _ _ (hg g e)⟩
theorem KeepN.below {b n : Nat} {v : Value} {W W' : World} (h : Below n W W') (hb : b < n) (hg : ∀ g, rowOf v = some g → g < n) : KeepN b v W W' := ⟨h.block b hb, fun g e => h.block g (hg g e)⟩
theorem keepN_t {b : Nat} {v : Value} {A B C : World} (h : KeepN b v A B) (k : KeepN b v B C) : KeepN b v A C := h.trans k
theorem keepN_b {b : Nat} {v : Value} {w : World} (hb : b < w.heap.size) (hg : ∀ g, rowOf v = some g → g < w.heap.size) (W : World) (l : Nat) (o o' : Obj) (hl : w.heap.size ≤ l) (h : W.heap[l]? = some o) (h1 : o.isCells = false) (h2 : o.isWalk = false) : KeepN b v W (W.putObj l o') :=
  ⟨keepB_b hb W l o o' hl h h1 h2, fun g e => keepB_b (hg g e) W l o o' hl h h1 h2⟩
def idxV (xs : List (List UInt8)) (j : Fin xs.length) : Array Value := #[.int .i64 (j.val : Int), strV xs[j]]

section
attribute [local go_sem] Oper.semAt_some

theorem finRange_take_succ {n k : Nat} (h : k < n) : (List.finRange n).take (k + 1) = (List.finRange n).take k ++ [⟨k, h⟩] := by
  rw [List.take_succ_eq_append_getElem (by simpa using h)]; simp

set_option maxRecDepth 100000 in
set_option maxHeartbeats 1000000 in
theorem labels1_in (n : Nat) (hn : 1 ≤ n) (l b : Nat) (v : Value) (xs : List (List UInt8)) (hs : xs.length ≤ maxLen) (J Jx : List (Fin xs.length) → World → Prop)
    (hY : ∀ pre x W, J pre W → pre.length < xs.length → YieldAt Fence.wide (n - 1) Tryz.prog l (idxV xs x) W fun e W' =>
      (e = .returned (.bool true) ∧ J (pre ++ [x]) W' ∧ KeepN b v W W') ∨ (e = .returned (.bool false) ∧ Jx (pre ++ [x]) W'))
    (W : World) (hc : W.cell? ⟨b, 0, none⟩ = some v) (hA : ∃ a c, v = .slice a xs.length c ∧ (xs = [] ∨ ∃ g off, a = some ⟨g, off, none⟩ ∧ ∀ j (hj : j < xs.length), W.cell? ⟨g, off + j, none⟩ = some (strV xs[j]))) (h0 : J [] W) :
    CallsIn Fence.wide n Tryz.prog 143 #[.func (.yield l) #[] #[], .pointer (some ⟨b, 0, none⟩)] W fun e W' => (∃ v, e = .returned v) ∧
      ((∃ ys, ys = List.finRange xs.length ∧ J ys W') ∨ (∃ pre, pre <+: List.finRange xs.length ∧ Jx pre W')) := by
  unfold maxLen at hs
  obtain ⟨a, c, rfl, hx⟩ := hA
  refine callsIn_of_wp Tryz.func143 rfl trivial ?_ rfl
  simp only [Tryz.ntmps143, List.size_toArray, List.length_cons, List.length_nil, Nat.reduceAdd, Nat.reduceSub, Array.replicate_succ, Array.replicate_zero, List.push_toArray, List.append_toArray, List.nil_append, List.cons_append]
  gi_wp2
  gi_loopw [7] (fun i wr => ∃ k : Nat, k ≤ xs.length ∧ i = .int .i64 k ∧ J ((List.finRange xs.length).take k) wr ∧ KeepN b (.slice a xs.length c) W wr)
    (fun i _ => xs.length - (intOf i).toNat)
  case atStart => exact ⟨0, Nat.zero_le _, rfl, h0, KeepN.refl _ _ _⟩
  case round =>
    obtain ⟨k, hk, rfl, hJs, hnx⟩ := hrel
    by_cases hlt : k < xs.length
    · rcases hx with e | ⟨g, off, rfl, hcells⟩
      · subst e; simp at hlt
      have hcell : wr.cell? ⟨g, off + k, none⟩ = some (strV xs[k]) := ((hnx.2 g (rowOf_at hlt)).cell).trans (hcells k hlt)
      obtain ⟨fn, tmps, assign, body, hy, hR⟩ := hY _ ⟨k, hlt⟩ wr hJs (by simp; omega)
      have hcb : wr.cell? ⟨b, 0, none⟩ = some (.slice (some ⟨g, off, none⟩) xs.length c) := hnx.1.cell.trans hc
      unfold idxV at hy
      generalize hsv : strV xs[k] = sv at *
      dsimp only at hy
      clear hcells hsv
      gi_wp2
      refine hR.mono ?_
      rintro e W3 (⟨rfl, hJ3, hk3⟩ | ⟨rfl, hJx3⟩)
      · gi_wp2
        go_roundw
        case rel => exact ⟨k + 1, by omega, by simp, by rw [finRange_take_succ hlt]; exact hJ3, hnx.trans hk3⟩
        case measure => simp [intOf]; omega
      · gi_wp2
        refine bodyPost_ret (results_none rfl _ _ _) rfl ?_
        exact ⟨⟨_, rfl⟩, .inr ⟨_, by rw [← finRange_take_succ hlt]; exact List.take_prefix _ _, hJx3⟩⟩
    · obtain rfl : k = xs.length := by omega
      gi_wp2
      go_end0
      exact ⟨⟨_, rfl⟩, .inl ⟨_, by rw [List.take_of_length_le (by simp)], hJs⟩⟩

theorem finRev_succ {n k : Nat} (h : k < n) : (List.finRange n).reverse.take (n - k) = (List.finRange n).reverse.take (n - (k + 1)) ++ [⟨k, h⟩] := by
  rw [show n - k = n - (k + 1) + 1 by omega, List.take_succ_eq_append_getElem (by simp; omega)]
  congr 1
  simp only [List.getElem_reverse, List.length_finRange, List.getElem_finRange, List.cons.injEq, and_true]
  apply Fin.ext; simp; omega

set_option maxRecDepth 100000 in
set_option maxHeartbeats 1000000 in
theorem upward1_in (n : Nat) (hn : 1 ≤ n) (l b : Nat) (v : Value) (xs : List (List UInt8)) (hs : xs.length ≤ maxLen) (J Jx : List (Fin xs.length) → World → Prop)
    (hY : ∀ pre x W, J pre W → pre.length < xs.length → YieldAt Fence.wide (n - 1) Tryz.prog l (idxV xs x) W fun e W' =>
      (e = .returned (.bool true) ∧ J (pre ++ [x]) W' ∧ KeepN b v W W') ∨ (e = .returned (.bool false) ∧ Jx (pre ++ [x]) W'))
    (W : World) (hc : W.cell? ⟨b, 0, none⟩ = some v) (hA : ∃ a c, v = .slice a xs.length c ∧ (xs = [] ∨ ∃ g off, a = some ⟨g, off, none⟩ ∧ ∀ j (hj : j < xs.length), W.cell? ⟨g, off + j, none⟩ = some (strV xs[j]))) (h0 : J [] W) :
    CallsIn Fence.wide n Tryz.prog 146 #[.func (.yield l) #[] #[], .pointer (some ⟨b, 0, none⟩)] W fun e W' => (∃ v, e = .returned v) ∧
      ((∃ ys, ys = (List.finRange xs.length).reverse ∧ J ys W') ∨ (∃ pre, pre <+: (List.finRange xs.length).reverse ∧ Jx pre W')) := by
  unfold maxLen at hs
  obtain ⟨a, c, rfl, hx⟩ := hA
  refine callsIn_of_wp Tryz.func146 rfl trivial ?_ rfl
  simp only [Tryz.ntmps146, List.size_toArray, List.length_cons, List.length_nil, Nat.reduceAdd, Nat.reduceSub, Array.replicate_succ, Array.replicate_zero, List.push_toArray, List.append_toArray, List.nil_append, List.cons_append]
  gi_wp2
  gi_loopw [3] (fun i wr => ∃ k : Nat, k ≤ xs.length ∧ i = .int .i64 ((k : Int) - 1) ∧ J ((List.finRange xs.length).reverse.take (xs.length - k)) wr ∧ KeepN b (.slice a xs.length c) W wr)
    (fun i _ => (intOf i + 1).toNat)
  case atStart => exact ⟨xs.length, Nat.le_refl _, rfl, by simpa using h0, KeepN.refl _ _ _⟩
  case round =>
    obtain ⟨k, hk, rfl, hJs, hnx⟩ := hrel
    rcases k with _ | k
    · gi_wp2
      go_end0
      exact ⟨⟨_, rfl⟩, .inl ⟨_, by rw [List.take_of_length_le (by simp)], hJs⟩⟩
    · have hlt : k < xs.length := hk
      rcases hx with e | ⟨g, off, rfl, hcells⟩
      · subst e; simp at hlt
      have hcell : wr.cell? ⟨g, off + k, none⟩ = some (strV xs[k]) := ((hnx.2 g (rowOf_at hlt)).cell).trans (hcells k hlt)
      obtain ⟨fn, tmps, assign, body, hy, hR⟩ := hY _ ⟨k, hlt⟩ wr hJs (by simp; omega)
      have hcb : wr.cell? ⟨b, 0, none⟩ = some (.slice (some ⟨g, off, none⟩) xs.length c) := hnx.1.cell.trans hc
      have hk1 : ((k + 1 : Nat) : Int) - 1 = (k : Int) := by omega
      rw [hk1]
      unfold idxV at hy
      generalize hsv : strV xs[k] = sv at *
      dsimp only at hy
      clear hcells hsv hk1
      gi_wp2
      refine hR.mono ?_
      rintro e W3 (⟨rfl, hJ3, hk3⟩ | ⟨rfl, hJx3⟩)
      · gi_wp2
        go_roundw
        case rel => exact ⟨k, by omega, by go_num, by rw [finRev_succ hlt]; exact hJ3, hnx.trans hk3⟩
        case measure => simp [intOf]
      · gi_wp2
        refine bodyPost_ret (results_none rfl _ _ _) rfl ?_
        exact ⟨⟨_, rfl⟩, .inr ⟨_, by rw [← finRev_succ hlt]; exact List.take_prefix _ _, hJx3⟩⟩

theorem labels_stops (n : Nat) (hn : 1 ≤ n) (b : Nat) (v : Value) (xs : List (List UInt8)) (hs : xs.length ≤ maxLen) (w : World) (hb : b < w.heap.size)
    (hc : w.cell? ⟨b, 0, none⟩ = some v) (hA : StrsAt w v xs) :
    SeqStopsK Fence.wide n Tryz.prog 143 #[.pointer (some ⟨b, 0, none⟩)] (idxV xs) (KeepN b v) (fun ys => ys = List.finRange xs.length) (fun pre => pre <+: List.finRange xs.length) xs.length w := fun l J Jx W hW _ _ hY h0 => by
  refine labels1_in n hn l b v xs hs J Jx hY W ((hW.cell (p := ⟨b, 0, none⟩) hb).trans hc) ?_ h0
  obtain ⟨a, c, e, h⟩ := hA
  exact ⟨a, c, e, h.imp id fun ⟨g, off, ea, hg, hcs⟩ => ⟨g, off, ea, fun j hj => (hW.cell (p := ⟨g, off + j, none⟩) hg).trans (hcs j hj)⟩⟩
theorem upward_stops (n : Nat) (hn : 1 ≤ n) (b : Nat) (v : Value) (xs : List (List UInt8)) (hs : xs.length ≤ maxLen) (w : World) (hb : b < w.heap.size)
    (hc : w.cell? ⟨b, 0, none⟩ = some v) (hA : StrsAt w v xs) :
    SeqStopsK Fence.wide n Tryz.prog 146 #[.pointer (some ⟨b, 0, none⟩)] (idxV xs) (KeepN b v) (fun ys => ys = (List.finRange xs.length).reverse) (fun pre => pre <+: (List.finRange xs.length).reverse) xs.length w := fun l J Jx W hW _ _ hY h0 => by
  refine upward1_in n hn l b v xs hs J Jx hY W ((hW.cell (p := ⟨b, 0, none⟩) hb).trans hc) ?_ h0
  obtain ⟨a, c, e, h⟩ := hA
  exact ⟨a, c, e, h.imp id fun ⟨g, off, ea, hg, hcs⟩ => ⟨g, off, ea, fun j hj => (hW.cell (p := ⟨g, off + j, none⟩) hg).trans (hcs j hj)⟩⟩

set_option maxHeartbeats 400000 in
theorem name_labels (a : Option Addr) (n c : Nat) (w : World) :
    Calls Tryz.prog 103 #[.slice a n c] w fun e w' => e = .returned (.func (.func 143) #[] #[.pointer (some ⟨w.heap.size, 0, none⟩)]) ∧ w' = w.alloc (.cells #[.slice a n c] 24) := by
  go_enter Tryz.func103, Tryz.ntmps103
  go_wp2
  go_ret
  exact ⟨rfl, rfl⟩
set_option maxHeartbeats 400000 in
theorem name_upward (a : Option Addr) (n c : Nat) (w : World) :
    Calls Tryz.prog 106 #[.slice a n c] w fun e w' => e = .returned (.func (.func 146) #[] #[.pointer (some ⟨w.heap.size, 0, none⟩)]) ∧ w' = w.alloc (.cells #[.slice a n c] 24) := by
  go_enter Tryz.func106, Tryz.ntmps106
  go_wp2
  go_ret
  exact ⟨rfl, rfl⟩
end
end Go.Proofs.YtckammgnmgkieaaGreat

/-
  Contracts of name.Len and name.Check.
-/
namespace Go.Proofs.YtckammgnmgkieaaGreat
set_option maxRecDepth 20000
open Go.RowKit Go.Shelf

def NmOK (xs : Nm) : Prop := xs.length ≤ 1048576 ∧ ∀ x ∈ xs, x.length ≤ 1048576
theorem NmOK.get {xs : Nm} (h : NmOK xs) (j : Nat) (hj : j < xs.length) : xs[j].length ≤ 1048576 := h.2 _ (List.getElem_mem hj)
section
attribute [local go_sem] Oper.semAt_some
end
end Go.Proofs.YtckammgnmgkieaaGreat

/-
  A result that lies in a box; facts on a round's end.
-/
namespace Go.Proofs.YtckammgnmgkieaaGreat
set_option maxRecDepth 20000
open Go.RowKit Go.Shelf

theorem results_cell {fn : Func} {t : Tmp} {T : TypeId} {k : IntKind} (h : fn.results = #[.cell t T]) (hT : Tryz.prog.underlying T = some (.int k)) (tmps : Array Value) (W : World) {b : Nat} {v : Value}
    (ht : tmps.getD t undef = .pointer (some ⟨b, 0, none⟩)) (hc : W.cell? ⟨b, 0, none⟩ = some v) : (results fn tmps).run Tryz.prog W = .ok v W := by
  have ht' : tmps[t]?.getD undef = .pointer (some ⟨b, 0, none⟩) := by rw [← ht]; simp
  have hu : ∀ w, Sem.run Tryz.prog (underlying T) w = .ok _ w := run_underlying hT
  simp [results, h, ht', loadVar, asAddr, go_sem, hu, hc, isAgg]
theorem results_cellB {fn : Func} {t : Tmp} {T : TypeId} (h : fn.results = #[.cell t T]) (hT : Tryz.prog.underlying T = some .bool) (tmps : Array Value) (W : World) {b : Nat} {v : Value}
    (ht : tmps.getD t undef = .pointer (some ⟨b, 0, none⟩)) (hc : W.cell? ⟨b, 0, none⟩ = some v) : (results fn tmps).run Tryz.prog W = .ok v W := by
  have ht' : tmps[t]?.getD undef = .pointer (some ⟨b, 0, none⟩) := by rw [← ht]; simp
  have hu : ∀ w, Sem.run Tryz.prog (underlying T) w = .ok _ w := run_underlying hT
  simp [results, h, ht', loadVar, asAddr, go_sem, hu, hc, isAgg]
theorem out_cell {W : World} {h D : Nat} {T : TypeId} {v : Value} (hb : Boxed W h T v) (hne : h ≠ D) (o : Obj) : (W.putObj D o).cell? ⟨h, 0, none⟩ = some v :=
  (hb.kept (grownBy_putObj' W D o) (by intro e; cases e; exact hne rfl)).cell
theorem heap_setOther {W : World} {h D : Nat} {o : Obj} (hK : W.heap[D]? = some o) (hne : D ≠ h) (u : Value) : (W.setCell ⟨h, 0, none⟩ u).heap[D]? = some o := by
  rw [Below.heap_setCell W ⟨h, 0, none⟩ u D hne]; exact hK
theorem below_putO {n D : Nat} {w W : World} {o' : Obj} (h : Below n w W) (hD : n ≤ D) (hn : n ≤ w.heap.size) : Below n w (W.putObj D o') :=
  h.trans ((Below.refl n W).grown (grownBy_putObj' W D o') (Nat.le_trans hn h.size) (fun k e => by cases e; exact hD))
end Go.Proofs.YtckammgnmgkieaaGreat

/-
  Contract of name.Same.
-/
namespace Go.Proofs.YtckammgnmgkieaaGreat
set_option maxRecDepth 20000
open Go.RowKit Go.Shelf

theorem KeepN.drewN {b : Nat} {v : Value} (W : World) (n : Nat) : KeepN b v W (W.drewN n) := ⟨rfl, fun _ _ => rfl⟩
theorem keepsOthers_drewN (W : World) (n : Nat) : KeepsOthers W (W.drewN n) := ⟨Nat.le_refl _, fun _ _ h _ => h⟩
theorem below_drewQ {B : Nat} {a w : World} (h : Below B a w) (n : Nat) : Below B a (w.drewN n) := h.trans ⟨rfl, rfl, rfl, Nat.le_refl _, fun _ _ => rfl⟩
theorem StrsAt.cell {W W' : World} {a : Option Addr} {c : Nat} {xs : Nm} (h : StrsAt W (.slice a xs.length c) xs) (hb : Below W.heap.size W W') (j : Nat) (hj : j < xs.length) :
    ∃ g off, a = some ⟨g, off, none⟩ ∧ g < W.heap.size ∧ W'.cell? ⟨g, off + j, none⟩ = some (strV xs[j]) := by
  obtain ⟨a', c', e, hx⟩ := h
  cases e
  rcases hx with e | ⟨g, off, rfl, hg, hc⟩
  · subst e; simp at hj
  · exact ⟨g, off, rfl, hg, (hb.cell (p := ⟨g, off + j, none⟩) hg).trans (hc j hj)⟩
theorem str_at {l : List UInt8} {s : ByteArray} (h : strV l = .string s) : (⟨l.toArray⟩ : ByteArray) = s := by unfold strV at h; cases h; rfl

section
attribute [local go_sem] Oper.semAt_some
set_option maxRecDepth 100000 in
set_option maxHeartbeats 2000000 in
theorem name_Same (v u : Value) (xs ys : Nm) (w : World) (hA : StrsAt w v xs) (hU : StrsAt w u ys) (hk : NmOK xs) (hk2 : NmOK ys) :
    Calls Tryz.prog 57 #[v, u] w fun e w' => e = .returned (.bool (sameN xs ys)) ∧ Below w.heap.size w w' := by
  obtain ⟨a, c, rfl, _⟩ := id hA
  obtain ⟨a2, c2, rfl, _⟩ := id hU
  refine (callsIn_wide (n := 5)).1 ?_
  refine callsIn_of_wp_marks Tryz.func57 rfl trivial ?_ rfl
  simp only [Tryz.ntmps57, List.size_toArray, List.length_cons, List.length_nil, Nat.reduceAdd, Nat.reduceSub, Array.replicate_succ, Array.replicate_zero, List.push_toArray, List.append_toArray, List.nil_append, List.cons_append]
  by_cases hne : ((xs.length : Int) != (ys.length : Int)) = true
  · have h0 : sameN xs ys = false := sameN_len (by intro e; rw [e] at hne; simp at hne)
    have H0 := Lib.hid h0; clear h0
    gi_wp2
    have hI : Boxed ((w.alloc (.cells #[.slice a2 ys.length c2] 24)).alloc (.cells #[.bool false] 4)) (w.heap.size + 1) 4 (.bool false) := by
      have := Boxed.new (w.alloc (.cells #[.slice a2 ys.length c2] 24)) 4 (.bool false)
      rwa [World.size_alloc] at this
    refine ⟨_, results_cellB rfl Tryz.underlying4 _ _ rfl hI.cell, by rw [H0.out], ?_⟩
    exact ((Below.refl _ w).alloc (Nat.le_refl _) _).alloc (by simp) _
  have hlen : ((xs.length : Int) != (ys.length : Int)) = false := by simpa using hne
  have hel : xs.length = ys.length := by simp at hlen; omega
  have HE := Lib.hid hel; clear hel hne
  gi_wp2_with (refine ⟨trivial, ?_⟩; gi_at_call 103; refine (callsIn_wide.2 (name_labels _ _ _ _)).mono ?_; rintro e w' ⟨rfl, rfl⟩)
  obtain ⟨W0, hW0⟩ : ∃ W0, (((w.alloc (.cells #[.slice a2 ys.length c2] 24)).alloc (.cells #[.bool false] 4)).alloc (.cells #[.slice a xs.length c] 24)) = W0 := ⟨_, rfl⟩
  have bU : Boxed W0 w.heap.size 24 (.slice a2 ys.length c2) := by rw [← hW0]; exact ((Boxed.new w _ _).alloc _).alloc _
  have bI : Boxed W0 (w.heap.size + 1) 4 (.bool false) := by
    have := Boxed.new (w.alloc (.cells #[.slice a2 ys.length c2] 24)) 4 (.bool false)
    rw [World.size_alloc] at this
    rw [← hW0]; exact this.alloc _
  have bV : Boxed W0 (w.heap.size + 1 + 1) 24 (.slice a xs.length c) := by
    have := Boxed.new ((w.alloc (.cells #[.slice a2 ys.length c2] 24)).alloc (.cells #[.bool false] 4)) 24 (.slice a xs.length c)
    rw [World.size_alloc, World.size_alloc] at this
    rw [← hW0]; exact this
  have hsz : W0.heap.size = w.heap.size + 3 := by rw [← hW0]; simp
  have hB0 : Below w.heap.size w W0 := by rw [← hW0]; exact (((Below.refl _ w).alloc (Nat.le_refl _) _).alloc (by simp) _).alloc (by simp; omega) _
  have hrow := hA.row_lt
  rw [hW0]
  have HZ := Lib.hid hsz; clear hsz hW0
  refine wpIn_rangeFunc_ownG rfl (by omega) (gf := 143) (lb := #[.pointer (some ⟨w.heap.size + 1 + 1, 0, none⟩)]) rfl trivial (enters_of Tryz.func143 (by kernel_rfl) rfl)
    (labels_stops _ (by omega) (w.heap.size + 1 + 1) (.slice a xs.length c) xs (by have := hk.1; unfold maxLen; omega) W0 (by rw [HZ.out]; omega) bV.cell (hA.below hB0)) keepN_t (keepN_b (by rw [HZ.out]; omega) (fun g e => by have := hrow g e; rw [HZ.out]; omega)) (Below.refl _ _) (fun _ => rfl)
    (fun pre W => Boxed W w.heap.size 24 (.slice a2 ys.length c2) ∧ Boxed W (w.heap.size + 1) 4 (.bool false) ∧ Below w.heap.size w W ∧ ∀ j ∈ pre, ∀ h : j.val < ys.length, sameM xs[j] ys[j.val] = true)
    (fun k _ W => k = .ret ∧ Boxed W (w.heap.size + 1) 4 (.bool false) ∧ Below w.heap.size w W ∧ sameN xs ys = false)
    (OwnFrom.and (Own.from (boxed_own _ _ _) _) (OwnFrom.and (Own.from (boxed_own _ _ _) _) (OwnFrom.and (ownFrom_below (Nat.le_refl _) (by rw [HZ.out]; omega)) (ownFrom_pure _ _))))
    (fun _ => OwnFrom.and (ownFrom_pure _ _) (OwnFrom.and (Own.from (boxed_own _ _ _) _) (OwnFrom.and (ownFrom_below (Nat.le_refl _) (by rw [HZ.out]; omega)) (ownFrom_pure _ _))))
    ⟨bU, bI, hB0, by simp⟩
    (fun j => { tmps := #[.slice a xs.length c, .slice a2 ys.length c2, undef, .pointer (some ⟨w.heap.size, 0, none⟩), .pointer (some ⟨w.heap.size + 1, 0, none⟩), .int .i64 (j.val : Int), .string ⟨xs[j].toArray⟩, .slice a xs.length c, .int .i64 xs.length, .slice a2 ys.length c2, .int .i64 ys.length, .bool false, .slice a xs.length c, .func (.func 143) #[] #[.pointer (some ⟨w.heap.size + 1 + 1, 0, none⟩)], .int .i64 (j.val : Int), .string ⟨xs[j].toArray⟩, undef, undef, undef, undef, undef, undef, undef], defers := [] }) ?assign ?body ?done ?stop
  case assign =>
    intro l x W K hK
    unfold idxV strV
    gi_wp2
    exact hK
  case body =>
    rintro l pre x W ⟨hU2, hI, hB, hC⟩ hlt
    have cu := hU2.cell
    have c0 := hI.cell; have f0 := hI.frozen
    have hxi : x.val < xs.length := x.isLt
    have hyi : x.val < ys.length := by rw [← HE.out]; exact hxi
    obtain ⟨g, off, rfl, hg, hcell⟩ := hU.cell hB x.val hyi
    have hx1 : xs[x].length ≤ 1048576 := hk.get x.val x.isLt
    have hy1 : ys[x.val].length ≤ 1048576 := hk2.get x.val hyi
    obtain ⟨sx, hsx, hsz, hsv⟩ := str_of xs[x]
    obtain ⟨sy, hsy, hsz2, hsv2⟩ := str_of ys[x.val]
    have hS := fun W => label_Same sx sy W (by unfold maxLen; omega) (by unfold maxLen; omega)
    rw [hsx, hsy] at hS
    rw [str_at hsv]
    rw [hsv2] at hcell
    generalize hq : sameM xs[x] ys[x.val] = q at *
    have HQ := Lib.hid hq
    clear hsx hsy hsz hsz2 hsv hsv2 hx1 hy1 hq
    cases q with
    | true =>
      gi_wp2_with (refine ⟨trivial, ?_⟩; gi_at_call 107; refine (CallsIn.inRound l (callsIn_wide.2 (hS _))).mono ?_; rintro e w' ⟨rfl, n, rfl⟩)
      refine ⟨(keepsOthers_drewN _ _).from _, KeepN.drewN _ _, hU2, hI, below_drewQ hB _, ?_⟩
      intro j hj h
      rcases List.mem_append.1 hj with hj | hj
      · exact hC j hj h
      · obtain rfl := List.mem_singleton.1 hj; exact HQ.out
    | false =>
      have H0 : Hid (sameN xs ys = false) := Lib.hid (sameN_not_get x.val hxi hyi HQ.out)
      gi_wp2_with (refine ⟨trivial, ?_⟩; gi_at_call 107; refine (CallsIn.inRound l (callsIn_wide.2 (hS _))).mono ?_; rintro e w' ⟨rfl, n, rfl⟩)
      refine ⟨((keepsOthers_drewN _ _).trans (KeepsOthers.setCell _ _ _)).from _, rfl, ?_, ?_, H0.out⟩
      · exact Boxed.set (.bool false) (show Boxed (W.drewN n) (w.heap.size + 1) 4 (.bool false) from hI)
      · exact (below_drewQ hB _).setCell (p := ⟨w.heap.size + 1, 0, none⟩) (by simp) _
  case done =>
    rintro D zs W hD rfl ⟨hU2, hI, hB, hC⟩ hK
    have c0 := hI.cell; have f0 := hI.frozen
    have hDn : w.heap.size + 1 ≠ D := by have := HZ.out; omega
    have hS : sameN xs ys = true := sameN_of_get HE.out (fun j h1 h2 => hC ⟨j, h1⟩ (List.mem_finRange _) h2)
    have HS := Lib.hid hS; clear hS hC
    gi_wp2
    refine ⟨by simp, .inl ⟨_, _, rfl, run_takeDeferred (heap_setOther hK hDn.symm _), ?_⟩⟩
    refine ⟨_, results_cellB rfl Tryz.underlying4 _ _ rfl (out_cell (hI.set _) hDn _), by rw [HS.out], ?_⟩
    exact below_putO (hB.setCell (p := ⟨w.heap.size + 1, 0, none⟩) (by simp) _) (by have := HZ.out; omega) (Nat.le_refl _)
  case stop =>
    rintro D c pre W hD hp ⟨rfl, hI, hB, hC⟩ hK
    have hDn : w.heap.size + 1 ≠ D := by have := HZ.out; omega
    have HC := Lib.hid hC; clear hC
    gi_wp2
    refine ⟨by simp, .inl ⟨_, _, rfl, run_takeDeferred hK, ?_⟩⟩
    refine ⟨_, results_cellB rfl Tryz.underlying4 _ _ rfl (out_cell hI hDn _), by rw [HC.out], ?_⟩
    exact below_putO hB (by have := HZ.out; omega) (Nat.le_refl _)
end
end Go.Proofs.YtckammgnmgkieaaGreat

/-
  Slices of strings copied: append of a whole slice; slices.Clone at names; name.Parent, name.Wild.
-/
namespace Go.Proofs.YtckammgnmgkieaaGreat
set_option maxRecDepth 20000
open Go.RowKit Go.Shelf

def SlOK (v : Value) : Prop := ∃ a n c, v = .slice a n c ∧ n ≤ c ∧ (a = none → c = 0)
theorem SlOK.nil : SlOK (.slice none 0 0) := ⟨_, _, _, rfl, Nat.le_refl _, fun _ => rfl⟩
theorem OwnG.slOK {α : Type} {T : TypeId} {enc : α → Value} {W : World} {base : Nat} {v : Value} {xs : List α} (h : OwnG T enc W base v xs) : SlOK v := by
  rcases h.2 with ⟨e, _⟩ | ⟨g', cap, cur, e, hb, hg, hc, hm, _⟩
  · subst e; exact .nil
  · exact ⟨_, _, _, e, hc, fun q => by cases q⟩
theorem elemNm : ElemT 9 24 16 := ⟨Tryz.underlying24, _, _, rfl, rfl, rfl, rfl, rfl⟩
theorem strsAt_cells {W : World} {a : Option Addr} {c : Nat} {xs : Nm} (h : StrsAt W (.slice a xs.length c) xs) {ad : Addr} (ha : a = some ad) :
    ∀ j u, (xs.map strV)[j]? = some u → W.cell? (ad.add j) = some u := by
  obtain ⟨a', c', e, hx⟩ := h
  cases e
  intro j u hj
  obtain ⟨hlt, e2⟩ := List.getElem?_eq_some_iff.1 hj
  rw [List.length_map] at hlt
  rw [List.getElem_map] at e2
  rcases hx with e | ⟨g, off, rfl, _, hc⟩
  · subst e; simp at hlt
  · cases ha
    rw [← e2, Addr.add_lit]; exact hc j hlt

theorem wpl_append_s {S : TypeId} {ops : Array Oper} {rest : List Oper} {o : Oper} {a : Act} {Q : Exit → Act → World → Prop} (W : World) (hgd : o.guard = none) (s x : Operand) (hE : ElemT 9 S 16)
    (ho : o.op = .call { callee := .builtin .append, args := #[s, x], argTypes := #[S, S] })
    (base : Nat) (v : Value) (xs : Nm) (hs : a.eval s = v) (hown : OwnG 9 strV W base v xs)
    (src : Value) (ys : Nm) (hx : a.eval x = src) (hsrc : StrsAt W src ys) (hok : SlOK src)
    (hbase : base ≤ W.heap.size) (hk : xs.length + ys.length ≤ maxLen) (hk2 : (xs.length + ys.length) * 16 ≤ 140737488355328)
    (h : ∀ v' w', OwnG 9 strV w' base v' (xs ++ ys) → W.grownBy w' v.ownBlock → wpList Tryz.prog ops Q rest (a.put o.dst v') w') :
    wpList Tryz.prog ops Q (o :: rest) a W := by
  obtain ⟨ht, i, z, hi, hz, hz1, hz2, hzc⟩ := hE
  obtain ⟨a0, c0, rfl, _⟩ := id hsrc
  cases a0 with
  | none =>
    obtain ⟨a1, n1, c1, e1, _, e2⟩ := hok
    cases e1
    have e3 := e2 rfl
    subst e3
    obtain ⟨a2, c2, e4, h4⟩ := hsrc
    cases e4
    rcases h4 with e5 | ⟨_, _, e5, _⟩
    · subst e5
      refine wpList_append_own_none hgd s x S ho base _ i 1 ht hi v _ _ hs hown hx ?_
      exact h v W (by rw [List.append_nil]; exact hown) ⟨rfl, rfl, rfl, Nat.le_refl _, fun _ _ _ => rfl⟩
    · cases e5
  | some ad =>
    refine wpList_append_own _ hgd s x S ho base _ i z 1 16 ht hi hz hz1 hz2 hzc (by decide) v xs.length (xs.map strV) hs hown ad ys.length c0 (ys.map strV) hx (by simp) (strsAt_cells hsrc rfl) (by intro u hu; obtain ⟨y, _, rfl⟩ := List.mem_map.1 hu; rfl) hk hk2 hbase ?_
    intro v' w' h1 h2 _
    refine h v' w' ?_ h2
    unfold OwnG
    rw [List.length_append, List.map_append]
    exact h1

set_option maxHeartbeats 2000000 in
theorem clone_Name (v : Value) (xs : Nm) (w : World) (hA : StrsAt w v xs) (hO : SlOK v) (hk : xs.length ≤ 8796093022000) :
    Calls Tryz.prog 64 #[v] w fun e w' => ∃ v', e = .returned v' ∧ OwnG 9 strV w' w.heap.size v' xs ∧ Below w.heap.size w w' := by
  obtain ⟨a, c, rfl, hx⟩ := id hA
  cases a with
  | none =>
    have hnil : xs = [] := by
      rcases hx with e | ⟨_, _, e, _⟩
      · exact e
      · cases e
    subst hnil
    have q := fun w => Lib.run_eql_slice_nil (P := Tryz.prog) w 24 _ none 0 c 0 0 Tryz.underlying24
    go_enter Tryz.func64, Tryz.ntmps64
    go_wp2
    go_ret
    exact ⟨_, rfl, OwnG.nil _ _, Below.refl _ _⟩
  | some ad =>
    have hlit : OwnG 9 strV (w.alloc (.cells #[] 9)) w.heap.size (.slice (some ⟨w.heap.size, 0, none⟩) 0 0) [] := OwnG.lit (enc := strV) w w.heap.size (Nat.le_refl _) [] (by simp)
    have q := fun w => Lib.run_eql_slice_nil (P := Tryz.prog) w 24 _ (some ad) xs.length c 0 0 Tryz.underlying24
    go_enter Tryz.func64, Tryz.ntmps64
    go_wp2_with (at_builtin; refine wpl_append_s (w.alloc (.cells #[] 9)) rfl (.tmp 5) (.tmp 6) elemNm rfl w.heap.size _ [] rfl hlit _ xs rfl (hA.below ((Below.refl _ w).alloc (Nat.le_refl _) _)) hO (by simp) (by unfold maxLen; simp; omega) (by simp; omega) ?_; intro v' w1 hown' hg')
    go_ret
    exact ⟨v', rfl, hown', ((Below.refl _ w).alloc (Nat.le_refl _) _).grown hg' (by simp) hlit.base_le⟩

end Go.Proofs.YtckammgnmgkieaaGreat

