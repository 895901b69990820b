import Derived.Test.YtnpnfajgphpabaaGreatMQ32
import Derived.Test.YtnpnfajgphpabaaGreatMQ37
namespace Go.Proofs.YtnpnfajgphpabaaGreat
set_option maxRecDepth 100000
set_option maxHeartbeats 1000000
open Go.RowKit Go.Shelf
def rowOf : Value → Option Nat
 | .slice (some a) (_ + 1) _ => some a.block
 | _ => none
theorem qa5 {a : Addr} {n c k : Nat} (h : k < n) : rowOf (.slice (some a) n c) = some a.block := by
 cases n with
 | zero => omega
 | succ n => rfl
theorem StrsAt.row_lt {W : World} {v : Value} {xs : List (List UInt8)} (h : StrsAt W v xs) : ∀ g, rowOf v = some g → g < W.heap.size := by
 obtain ⟨a, c, rfl, hx⟩ := h
 intro g hg
 rcases hx with e | ⟨b, off, rfl, hb, _⟩
 ·subst e; cases a <;> cases hg
 ·cases xs with
  | nil => cases hg
  | cons x r => cases hg; exact hb
def KeepN (b : Nat) (v : Value) (W W' : World) : Prop := KeepB b W W' ∧ ∀ g, rowOf v = some g → KeepB g W W'
theorem KeepN.refl (b : Nat) (v : Value) (W : World) : KeepN b v W W := ⟨KeepB.refl _ _, fun _ _ => KeepB.refl _ _⟩
theorem KeepN.trans {b : Nat} {v : Value} {A B C : World} (h : KeepN b v A B) (k : KeepN b v B C) : KeepN b v A C := ⟨h.1.trans k.1, fun g e => (h.2 g e).trans (k.2 g e)⟩
def StrsIn (n₀ : Nat) (W : World) (v : Value) (xs : List (List UInt8)) : Prop :=
 ∃ a c, v = .slice a xs.length c ∧ (xs = [] ∨ ∃ b off, a = some ⟨b, off, none⟩ ∧ b < n₀ ∧ ∀ j (hj : j < xs.length), W.cell? ⟨b, off + j, none⟩ = some (strV xs[j]))
theorem StrsAt.in {W : World} {v : Value} {xs : List (List UInt8)} (h : StrsAt W v xs) : StrsIn W.heap.size W v xs := h
theorem KeepN.setCell {b c : Nat} {v : Value} (W : World) (u : Value) (hb : b ≠ c) (hg : ∀ g, rowOf v = some g → g ≠ c) : KeepN b v W (W.setCell ⟨c, 0, none⟩ u) := ⟨KeepB.setCell _ _ hb, fun g e => KeepB.setCell _ _ (hg g e)⟩
theorem KeepN.alloc {b : Nat} {v : Value} (W : World) (o : Obj) (hb : b < W.heap.size) (hg : ∀ g, rowOf v = some g → g < W.heap.size) : KeepN b v W (W.alloc o) := ⟨KeepB.alloc _ _ hb, fun g e => KeepB.alloc _ _ (hg g e)⟩
theorem KeepN.below {b n : Nat} {v : Value} {W W' : World} (h : Below n W W') (hb : b < n) (hg : ∀ g, rowOf v = some g → g < n) : KeepN b v W W' := ⟨h.block b hb, fun g e => h.block g (hg g e)⟩
theorem qfk {b : Nat} {v : Value} {A B C : World} (h : KeepN b v A B) (k : KeepN b v B C) : KeepN b v A C := h.trans k
theorem qa9 {b : Nat} {v : Value} {w : World} (hb : b < w.heap.size) (hg : ∀ g, rowOf v = some g → g < w.heap.size) (W : World) (l : Nat) (o o' : Obj) (hl : w.heap.size ≤ l) (h : W.heap[l]? = some o) (h1 : o.isCells = false) (h2 : o.isWalk = false) : KeepN b v W (W.putObj l o') :=
 ⟨qci hb W l o o' hl h h1 h2, fun g e => qci (hg g e) W l o o' hl h h1 h2⟩
def idxV (xs : List (List UInt8)) (j : Fin xs.length) : Array Value := #[.int .i64 (j.val : Int), strV xs[j]]
section
attribute [local go_sem] Oper.semAt_some
theorem qan {n k : Nat} (h : k < n) : (List.finRange n).take (k + 1) = (List.finRange n).take k ++ [⟨k, h⟩] := by
 rw [List.take_succ_eq_append_getElem (by simpa using h)]; simp
theorem qiC (n : Nat) (hn : 1 ≤ n) (l b : Nat) (v : Value) (xs : List (List UInt8)) (hs : xs.length ≤ maxLen) (J Jx : List (Fin xs.length) → World → Prop)
 (hY : ∀ pre x W, J pre W → pre.length < xs.length → YieldAt Fence.wide (n - 1) Tryz.prog l (idxV xs x) W fun e W' =>
   (e = .returned (.bool true) ∧ J (pre ++ [x]) W' ∧ KeepN b v W W') ∨ (e = .returned (.bool false) ∧ Jx (pre ++ [x]) W'))
 (W : World) (hc : W.cell? ⟨b, 0, none⟩ = some v) (hA : ∃ a c, v = .slice a xs.length c ∧ (xs = [] ∨ ∃ g off, a = some ⟨g, off, none⟩ ∧ ∀ j (hj : j < xs.length), W.cell? ⟨g, off + j, none⟩ = some (strV xs[j]))) (h0 : J [] W) :
 CallsIn Fence.wide n Tryz.prog 68 #[.func (.yield l) #[] #[], .pointer (some ⟨b, 0, none⟩)] W fun e W' => (∃ v, e = .returned v) ∧
  ((∃ ys, ys = List.finRange xs.length ∧ J ys W') ∨ (∃ pre, pre <+: List.finRange xs.length ∧ Jx pre W')) := by
 unfold maxLen at hs
 obtain ⟨a, c, rfl, hx⟩ := hA
 refine callsIn_of_wp Tryz.func68 rfl trivial ?_ rfl
 simp only [Tryz.ntmps68, List.size_toArray, List.length_cons, List.length_nil, Nat.reduceAdd, Nat.reduceSub, Array.replicate_succ, Array.replicate_zero, List.push_toArray, List.append_toArray, List.nil_append, List.cons_append]
 gi_wp2
 gi_loopw [7] (fun i wr => ∃ k : Nat, k ≤ xs.length ∧ i = .int .i64 k ∧ J ((List.finRange xs.length).take k) wr ∧ KeepN b (.slice a xs.length c) W wr)
  (fun i _ => xs.length - (intOf i).toNat)
 case atStart => exact ⟨0, Nat.zero_le _, rfl, h0, KeepN.refl _ _ _⟩
 case round =>
  obtain ⟨k, hk, rfl, hJs, hnx⟩ := hrel
  by_cases hlt : k < xs.length
  ·rcases hx with e | ⟨g, off, rfl, hcells⟩
   ·subst e; simp at hlt
   have hcell : wr.cell? ⟨g, off + k, none⟩ = some (strV xs[k]) := ((hnx.2 g (qa5 hlt)).cell).trans (hcells k hlt)
   obtain ⟨fn, tmps, assign, body, hy, hR⟩ := hY _ ⟨k, hlt⟩ wr hJs (by simp; omega)
   have hcb : wr.cell? ⟨b, 0, none⟩ = some (.slice (some ⟨g, off, none⟩) xs.length c) := hnx.1.cell.trans hc
   unfold idxV at hy
   generalize hsv : strV xs[k] = sv at *
   dsimp only at hy
   clear hcells hsv
   gi_wp2
   refine hR.mono ?_
   rintro e W3 (⟨rfl, hJ3, hk3⟩ | ⟨rfl, hJx3⟩)
   ·gi_wp2
    go_roundw
    case rel => exact ⟨k + 1, by omega, by simp, by rw [qan hlt]; exact hJ3, hnx.trans hk3⟩
    case measure => simp [intOf]; omega
   ·gi_wp2
    refine bodyPost_ret (results_none rfl _ _ _) rfl ?_
    exact ⟨⟨_, rfl⟩, .inr ⟨_, by rw [← qan hlt]; exact List.take_prefix _ _, hJx3⟩⟩
  ·obtain rfl : k = xs.length := by omega
   gi_wp2
   go_end0
   exact ⟨⟨_, rfl⟩, .inl ⟨_, by rw [List.take_of_length_le (by simp)], hJs⟩⟩
theorem qec {n k : Nat} (h : k < n) : (List.finRange n).reverse.take (n - k) = (List.finRange n).reverse.take (n - (k + 1)) ++ [⟨k, h⟩] := by
 rw [show n - k = n - (k + 1) + 1 by omega, List.take_succ_eq_append_getElem (by simp; omega)]
 congr 1
 simp only [List.getElem_reverse, List.length_finRange, List.getElem_finRange, List.cons.injEq, and_true]
 apply Fin.ext; simp; omega
theorem qiw (n : Nat) (hn : 1 ≤ n) (l b : Nat) (v : Value) (xs : List (List UInt8)) (hs : xs.length ≤ maxLen) (J Jx : List (Fin xs.length) → World → Prop)
 (hY : ∀ pre x W, J pre W → pre.length < xs.length → YieldAt Fence.wide (n - 1) Tryz.prog l (idxV xs x) W fun e W' =>
   (e = .returned (.bool true) ∧ J (pre ++ [x]) W' ∧ KeepN b v W W') ∨ (e = .returned (.bool false) ∧ Jx (pre ++ [x]) W'))
 (W : World) (hc : W.cell? ⟨b, 0, none⟩ = some v) (hA : ∃ a c, v = .slice a xs.length c ∧ (xs = [] ∨ ∃ g off, a = some ⟨g, off, none⟩ ∧ ∀ j (hj : j < xs.length), W.cell? ⟨g, off + j, none⟩ = some (strV xs[j]))) (h0 : J [] W) :
 CallsIn Fence.wide n Tryz.prog 94 #[.func (.yield l) #[] #[], .pointer (some ⟨b, 0, none⟩)] W fun e W' => (∃ v, e = .returned v) ∧
  ((∃ ys, ys = (List.finRange xs.length).reverse ∧ J ys W') ∨ (∃ pre, pre <+: (List.finRange xs.length).reverse ∧ Jx pre W')) := by
 unfold maxLen at hs
 obtain ⟨a, c, rfl, hx⟩ := hA
 refine callsIn_of_wp Tryz.func94 rfl trivial ?_ rfl
 simp only [Tryz.ntmps94, List.size_toArray, List.length_cons, List.length_nil, Nat.reduceAdd, Nat.reduceSub, Array.replicate_succ, Array.replicate_zero, List.push_toArray, List.append_toArray, List.nil_append, List.cons_append]
 gi_wp2
 gi_loopw [3] (fun i wr => ∃ k : Nat, k ≤ xs.length ∧ i = .int .i64 ((k : Int) - 1) ∧ J ((List.finRange xs.length).reverse.take (xs.length - k)) wr ∧ KeepN b (.slice a xs.length c) W wr)
  (fun i _ => (intOf i + 1).toNat)
 case atStart => exact ⟨xs.length, qN0, rfl, by simpa using h0, KeepN.refl _ _ _⟩
 case round =>
  obtain ⟨k, hk, rfl, hJs, hnx⟩ := hrel
  rcases k with _ | k
  ·gi_wp2
   go_end0
   exact ⟨⟨_, rfl⟩, .inl ⟨_, by rw [List.take_of_length_le (by simp)], hJs⟩⟩
  ·have hlt : k < xs.length := hk
   rcases hx with e | ⟨g, off, rfl, hcells⟩
   ·subst e; simp at hlt
   have hcell : wr.cell? ⟨g, off + k, none⟩ = some (strV xs[k]) := ((hnx.2 g (qa5 hlt)).cell).trans (hcells k hlt)
   obtain ⟨fn, tmps, assign, body, hy, hR⟩ := hY _ ⟨k, hlt⟩ wr hJs (by simp; omega)
   have hcb : wr.cell? ⟨b, 0, none⟩ = some (.slice (some ⟨g, off, none⟩) xs.length c) := hnx.1.cell.trans hc
   have hk1 : ((k + 1 : Nat) : Int) - 1 = (k : Int) := by omega
   rw [hk1]
   unfold idxV at hy
   generalize hsv : strV xs[k] = sv at *
   dsimp only at hy
   clear hcells hsv hk1
   gi_wp2
   refine hR.mono ?_
   rintro e W3 (⟨rfl, hJ3, hk3⟩ | ⟨rfl, hJx3⟩)
   ·gi_wp2
    go_roundw
    case rel => exact ⟨k, by omega, by go_num, by rw [qec hlt]; exact hJ3, hnx.trans hk3⟩
    case measure => simp [intOf]
   ·gi_wp2
    refine bodyPost_ret (results_none rfl _ _ _) rfl ?_
    exact ⟨⟨_, rfl⟩, .inr ⟨_, by rw [← qec hlt]; exact List.take_prefix _ _, hJx3⟩⟩
theorem qgJ (n : Nat) (hn : 1 ≤ n) (b : Nat) (v : Value) (xs : List (List UInt8)) (hs : xs.length ≤ maxLen) (w : World) (hb : b < w.heap.size)
 (hc : w.cell? ⟨b, 0, none⟩ = some v) (hA : StrsAt w v xs) :
 SeqStopsK Fence.wide n Tryz.prog 68 #[.pointer (some ⟨b, 0, none⟩)] (idxV xs) (KeepN b v) (fun ys => ys = List.finRange xs.length) (fun pre => pre <+: List.finRange xs.length) xs.length w := fun l J Jx W hW _ _ hY h0 => by
 refine qiC n hn l b v xs hs J Jx hY W ((hW.cell (p := ⟨b, 0, none⟩) hb).trans hc) ?_ h0
 obtain ⟨a, c, e, h⟩ := hA
 exact ⟨a, c, e, h.imp id fun ⟨g, off, ea, hg, hcs⟩ => ⟨g, off, ea, fun j hj => (hW.cell (p := ⟨g, off + j, none⟩) hg).trans (hcs j hj)⟩⟩
theorem qdw (n : Nat) (hn : 1 ≤ n) (b : Nat) (v : Value) (xs : List (List UInt8)) (hs : xs.length ≤ maxLen) (w : World) (hb : b < w.heap.size)
 (hc : w.cell? ⟨b, 0, none⟩ = some v) (hA : StrsAt w v xs) :
 SeqStopsK Fence.wide n Tryz.prog 94 #[.pointer (some ⟨b, 0, none⟩)] (idxV xs) (KeepN b v) (fun ys => ys = (List.finRange xs.length).reverse) (fun pre => pre <+: (List.finRange xs.length).reverse) xs.length w := fun l J Jx W hW _ _ hY h0 => by
 refine qiw n hn l b v xs hs J Jx hY W ((hW.cell (p := ⟨b, 0, none⟩) hb).trans hc) ?_ h0
 obtain ⟨a, c, e, h⟩ := hA
 exact ⟨a, c, e, h.imp id fun ⟨g, off, ea, hg, hcs⟩ => ⟨g, off, ea, fun j hj => (hW.cell (p := ⟨g, off + j, none⟩) hg).trans (hcs j hj)⟩⟩
theorem qhD (a : Option Addr) (n c : Nat) (w : World) :
 Calls Tryz.prog 35 #[.slice a n c] w fun e w' => e = .returned (.func (.func 68) #[] #[.pointer (some ⟨w.heap.size, 0, none⟩)]) ∧ w' = w.alloc (.cells #[.slice a n c] 23) := by
 go_enter Tryz.func35, Tryz.ntmps35
 go_wp2
 go_ret
 exact ⟨rfl, rfl⟩
theorem qd6 (a : Option Addr) (n c : Nat) (w : World) :
 Calls Tryz.prog 70 #[.slice a n c] w fun e w' => e = .returned (.func (.func 94) #[] #[.pointer (some ⟨w.heap.size, 0, none⟩)]) ∧ w' = w.alloc (.cells #[.slice a n c] 23) := by
 go_enter Tryz.func70, Tryz.ntmps70
 go_wp2
 go_ret
 exact ⟨rfl, rfl⟩
end
end Go.Proofs.YtnpnfajgphpabaaGreat
namespace Go.Proofs.YtnpnfajgphpabaaGreat
set_option maxRecDepth 20000
open Go.RowKit Go.Shelf
def NmOK (xs : Nm) : Prop := xs.length ≤ 1048576 ∧ ∀ x ∈ xs, x.length ≤ 1048576
theorem NmOK.get {xs : Nm} (h : NmOK xs) (j : Nat) (hj : j < xs.length) : xs[j].length ≤ 1048576 := h.2 _ (List.getElem_mem hj)
section
attribute [local go_sem] Oper.semAt_some
end
end Go.Proofs.YtnpnfajgphpabaaGreat
namespace Go.Proofs.YtnpnfajgphpabaaGreat
set_option maxRecDepth 20000
open Go.RowKit Go.Shelf
theorem qaC {fn : Func} {t : Tmp} {T : TypeId} {k : IntKind} (h : fn.results = #[.cell t T]) (hT : Tryz.prog.underlying T = some (.int k)) (tmps : Array Value) (W : World) {b : Nat} {v : Value}
 (ht : tmps.getD t undef = .pointer (some ⟨b, 0, none⟩)) (hc : W.cell? ⟨b, 0, none⟩ = some v) : (results fn tmps).run Tryz.prog W = .ok v W := by
 have ht' : tmps[t]?.getD undef = .pointer (some ⟨b, 0, none⟩) := by rw [← ht]; simp
 have hu : ∀ w, Sem.run Tryz.prog (underlying T) w = .ok _ w := run_underlying hT
 simp [results, h, ht', loadVar, asAddr, go_sem, hu, hc, isAgg]
theorem qaP {fn : Func} {t : Tmp} {T : TypeId} (h : fn.results = #[.cell t T]) (hT : Tryz.prog.underlying T = some .bool) (tmps : Array Value) (W : World) {b : Nat} {v : Value}
 (ht : tmps.getD t undef = .pointer (some ⟨b, 0, none⟩)) (hc : W.cell? ⟨b, 0, none⟩ = some v) : (results fn tmps).run Tryz.prog W = .ok v W := by
 have ht' : tmps[t]?.getD undef = .pointer (some ⟨b, 0, none⟩) := by rw [← ht]; simp
 have hu : ∀ w, Sem.run Tryz.prog (underlying T) w = .ok _ w := run_underlying hT
 simp [results, h, ht', loadVar, asAddr, go_sem, hu, hc, isAgg]
theorem qaq {W : World} {h D : Nat} {T : TypeId} {v : Value} (hb : Boxed W h T v) (hne : h ≠ D) (o : Obj) : (W.putObj D o).cell? ⟨h, 0, none⟩ = some v :=
 (hb.kept (grownBy_putObj' W D o) (by intro e; cases e; exact hne rfl)).cell
theorem qaw {W : World} {h D : Nat} {o : Obj} (hK : W.heap[D]? = some o) (hne : D ≠ h) (u : Value) : (W.setCell ⟨h, 0, none⟩ u).heap[D]? = some o := by
 rw [Below.heap_setCell W ⟨h, 0, none⟩ u D hne]; exact hK
theorem qal {n D : Nat} {w W : World} {o' : Obj} (h : Below n w W) (hD : n ≤ D) (hn : n ≤ w.heap.size) : Below n w (W.putObj D o') :=
 h.trans ((Below.refl n W).grown (grownBy_putObj' W D o') (Nat.le_trans hn h.size) (fun k e => by cases e; exact hD))
end Go.Proofs.YtnpnfajgphpabaaGreat
namespace Go.Proofs.YtnpnfajgphpabaaGreat
set_option maxRecDepth 100000
set_option maxHeartbeats 2000000
open Go.RowKit Go.Shelf
theorem KeepN.drewN {b : Nat} {v : Value} (W : World) (n : Nat) : KeepN b v W (W.drewN n) := ⟨rfl, fun _ _ => rfl⟩
theorem qaO (W : World) (n : Nat) : KeepsOthers W (W.drewN n) := ⟨qN0, fun _ _ h _ => h⟩
theorem qaz {B : Nat} {a w : World} (h : Below B a w) (n : Nat) : Below B a (w.drewN n) := h.trans ⟨rfl, rfl, rfl, qN0, fun _ _ => rfl⟩
theorem StrsAt.cell {W W' : World} {a : Option Addr} {c : Nat} {xs : Nm} (h : StrsAt W (.slice a xs.length c) xs) (hb : Below W.heap.size W W') (j : Nat) (hj : j < xs.length) :
 ∃ g off, a = some ⟨g, off, none⟩ ∧ g < W.heap.size ∧ W'.cell? ⟨g, off + j, none⟩ = some (strV xs[j]) := by
 obtain ⟨a', c', e, hx⟩ := h
 cases e
 rcases hx with e | ⟨g, off, rfl, hg, hc⟩
 ·subst e; simp at hj
 ·exact ⟨g, off, rfl, hg, (hb.cell (p := ⟨g, off + j, none⟩) hg).trans (hc j hj)⟩
theorem str_at {l : List UInt8} {s : ByteArray} (h : strV l = .string s) : (⟨l.toArray⟩ : ByteArray) = s := by unfold strV at h; cases h; rfl
section
attribute [local go_sem] Oper.semAt_some
theorem qi7 (v u : Value) (xs ys : Nm) (w : World) (hA : StrsAt w v xs) (hU : StrsAt w u ys) (hk : NmOK xs) (hk2 : NmOK ys) :
 Calls Tryz.prog 12 #[v, u] w fun e w' => e = .returned (.bool (sameN xs ys)) ∧ Below w.heap.size w w' := by
 obtain ⟨a, c, rfl, _⟩ := id hA
 obtain ⟨a2, c2, rfl, _⟩ := id hU
 refine (callsIn_wide (n := 5)).1 ?_
 refine callsIn_of_wp_marks Tryz.func12 rfl trivial ?_ rfl
 simp only [Tryz.ntmps12, List.size_toArray, List.length_cons, List.length_nil, Nat.reduceAdd, Nat.reduceSub, Array.replicate_succ, Array.replicate_zero, List.push_toArray, List.append_toArray, List.nil_append, List.cons_append]
 by_cases hne : ((xs.length : Int) != (ys.length : Int)) = true
 ·have h0 : sameN xs ys = false := qfY (by intro e; rw [e] at hne; simp at hne)
  have H0 := qH0 h0; clear h0
  gi_wp2
  have hI : Boxed ((w.alloc (.cells #[.slice a2 ys.length c2] 23)).alloc (.cells #[.bool false] 4)) (w.heap.size + 1) 4 (.bool false) := by
   have := Boxed.new (w.alloc (.cells #[.slice a2 ys.length c2] 23)) 4 (.bool false)
   rwa [World.size_alloc] at this
  refine ⟨_, qaP rfl Tryz.underlying4 _ _ rfl hI.cell, by rw [H0.out], ?_⟩
  exact ((Below.refl _ w).alloc (qN0) _).alloc (by simp) _
 have hlen : ((xs.length : Int) != (ys.length : Int)) = false := by simpa using hne
 have hel : xs.length = ys.length := by simp at hlen; omega
 have HE := qH0 hel; clear hel hne
 gi_wp2_with (refine ⟨trivial, ?_⟩; gi_at_call 35; refine (callsIn_wide.2 (qhD _ _ _ _)).mono ?_; rintro e w' ⟨rfl, rfl⟩)
 obtain ⟨W0, hW0⟩ : ∃ W0, (((w.alloc (.cells #[.slice a2 ys.length c2] 23)).alloc (.cells #[.bool false] 4)).alloc (.cells #[.slice a xs.length c] 23)) = W0 := ⟨_, rfl⟩
 have bU : Boxed W0 w.heap.size 23 (.slice a2 ys.length c2) := by rw [← hW0]; exact ((Boxed.new w _ _).alloc _).alloc _
 have bI : Boxed W0 (w.heap.size + 1) 4 (.bool false) := by
  have := Boxed.new (w.alloc (.cells #[.slice a2 ys.length c2] 23)) 4 (.bool false)
  rw [World.size_alloc] at this
  rw [← hW0]; exact this.alloc _
 have bV : Boxed W0 (w.heap.size + 1 + 1) 23 (.slice a xs.length c) := by
  have := Boxed.new ((w.alloc (.cells #[.slice a2 ys.length c2] 23)).alloc (.cells #[.bool false] 4)) 23 (.slice a xs.length c)
  rw [World.size_alloc, World.size_alloc] at this
  rw [← hW0]; exact this
 have hsz : W0.heap.size = w.heap.size + 3 := by rw [← hW0]; simp
 have hB0 : Below w.heap.size w W0 := by rw [← hW0]; exact (((Below.refl _ w).alloc (qN0) _).alloc (by simp) _).alloc (by simp; omega) _
 have hrow := hA.row_lt
 rw [hW0]
 have HZ := qH0 hsz; clear hsz hW0
 refine wpIn_rangeFunc_ownG rfl (by omega) (gf := 68) (lb := #[.pointer (some ⟨w.heap.size + 1 + 1, 0, none⟩)]) rfl trivial (enters_of Tryz.func68 (by kernel_rfl) rfl)
  (qgJ _ (by omega) (w.heap.size + 1 + 1) (.slice a xs.length c) xs (by have := hk.1; unfold maxLen; omega) W0 (by rw [HZ.out]; omega) bV.cell (hA.below hB0)) qfk (qa9 (by rw [HZ.out]; omega) (fun g e => by have := hrow g e; rw [HZ.out]; omega)) (qL0) (fun _ => rfl)
  (fun pre W => Boxed W w.heap.size 23 (.slice a2 ys.length c2) ∧ Boxed W (w.heap.size + 1) 4 (.bool false) ∧ Below w.heap.size w W ∧ ∀ j ∈ pre, ∀ h : j.val < ys.length, sameM xs[j] ys[j.val] = true)
  (fun k _ W => k = .ret ∧ Boxed W (w.heap.size + 1) 4 (.bool false) ∧ Below w.heap.size w W ∧ sameN xs ys = false)
  (OwnFrom.and (Own.from (boxed_own _ _ _) _) (OwnFrom.and (Own.from (boxed_own _ _ _) _) (OwnFrom.and (ownFrom_below (qN0) (by rw [HZ.out]; omega)) (ownFrom_pure _ _))))
  (fun _ => OwnFrom.and (ownFrom_pure _ _) (OwnFrom.and (Own.from (boxed_own _ _ _) _) (OwnFrom.and (ownFrom_below (qN0) (by rw [HZ.out]; omega)) (ownFrom_pure _ _))))
  ⟨bU, bI, hB0, by simp⟩
  (fun j => { tmps := #[.slice a xs.length c, .slice a2 ys.length c2, undef, .pointer (some ⟨w.heap.size, 0, none⟩), .pointer (some ⟨w.heap.size + 1, 0, none⟩), .int .i64 (j.val : Int), .string ⟨xs[j].toArray⟩, .slice a xs.length c, .int .i64 xs.length, .slice a2 ys.length c2, .int .i64 ys.length, .bool false, .slice a xs.length c, .func (.func 68) #[] #[.pointer (some ⟨w.heap.size + 1 + 1, 0, none⟩)], .int .i64 (j.val : Int), .string ⟨xs[j].toArray⟩, undef, undef, undef, undef, undef, undef, undef], defers := [] }) ?assign ?body ?done ?stop
 case assign =>
  intro l x W K hK
  unfold idxV strV
  gi_wp2
  exact hK
 case body =>
  rintro l pre x W ⟨hU2, hI, hB, hC⟩ hlt
  have cu := hU2.cell
  have c0 := hI.cell; have f0 := hI.frozen
  have hxi : x.val < xs.length := x.isLt
  have hyi : x.val < ys.length := by rw [← HE.out]; exact hxi
  obtain ⟨g, off, rfl, hg, hcell⟩ := hU.cell hB x.val hyi
  have hx1 : xs[x].length ≤ 1048576 := hk.get x.val x.isLt
  have hy1 : ys[x.val].length ≤ 1048576 := hk2.get x.val hyi
  obtain ⟨sx, hsx, hsz, hsv⟩ := str_of xs[x]
  obtain ⟨sy, hsy, hsz2, hsv2⟩ := str_of ys[x.val]
  have hS := fun W => qeX sx sy W (by unfold maxLen; omega) (by unfold maxLen; omega)
  rw [hsx, hsy] at hS
  rw [str_at hsv]
  rw [hsv2] at hcell
  generalize hq : sameM xs[x] ys[x.val] = q at *
  have HQ := qH0 hq
  clear hsx hsy hsz hsz2 hsv hsv2 hx1 hy1 hq
  cases q with
  | true =>
   gi_wp2_with (refine ⟨trivial, ?_⟩; gi_at_call 36; refine (CallsIn.inRound l (callsIn_wide.2 (hS _))).mono ?_; rintro e w' ⟨rfl, n, rfl⟩)
   refine ⟨(qaO _ _).from _, KeepN.drewN _ _, hU2, hI, qaz hB _, ?_⟩
   intro j hj h
   rcases List.mem_append.1 hj with hj | hj
   ·exact hC j hj h
   ·obtain rfl := List.mem_singleton.1 hj; exact HQ.out
  | false =>
   have H0 : Hid (sameN xs ys = false) := qH0 (qdj x.val hxi hyi HQ.out)
   gi_wp2_with (refine ⟨trivial, ?_⟩; gi_at_call 36; refine (CallsIn.inRound l (callsIn_wide.2 (hS _))).mono ?_; rintro e w' ⟨rfl, n, rfl⟩)
   refine ⟨((qaO _ _).trans (KeepsOthers.setCell _ _ _)).from _, rfl, ?_, ?_, H0.out⟩
   ·exact Boxed.set (.bool false) (show Boxed (W.drewN n) (w.heap.size + 1) 4 (.bool false) from hI)
   ·exact (qaz hB _).setCell (p := ⟨w.heap.size + 1, 0, none⟩) (by simp) _
 case done =>
  rintro D zs W hD rfl ⟨hU2, hI, hB, hC⟩ hK
  have c0 := hI.cell; have f0 := hI.frozen
  have hDn : w.heap.size + 1 ≠ D := by have := HZ.out; omega
  have hS : sameN xs ys = true := qdC HE.out (fun j h1 h2 => hC ⟨j, h1⟩ (List.mem_finRange _) h2)
  have HS := qH0 hS; clear hS hC
  gi_wp2
  refine ⟨by simp, .inl ⟨_, _, rfl, run_takeDeferred (qaw hK hDn.symm _), ?_⟩⟩
  refine ⟨_, qaP rfl Tryz.underlying4 _ _ rfl (qaq (hI.set _) hDn _), by rw [HS.out], ?_⟩
  exact qal (hB.setCell (p := ⟨w.heap.size + 1, 0, none⟩) (by simp) _) (by have := HZ.out; omega) (qN0)
 case stop =>
  rintro D c pre W hD hp ⟨rfl, hI, hB, hC⟩ hK
  have hDn : w.heap.size + 1 ≠ D := by have := HZ.out; omega
  have HC := qH0 hC; clear hC
  gi_wp2
  refine ⟨by simp, .inl ⟨_, _, rfl, run_takeDeferred hK, ?_⟩⟩
  refine ⟨_, qaP rfl Tryz.underlying4 _ _ rfl (qaq hI hDn _), by rw [HC.out], ?_⟩
  exact qal hB (by have := HZ.out; omega) (qN0)
end
end Go.Proofs.YtnpnfajgphpabaaGreat
namespace Go.Proofs.YtnpnfajgphpabaaGreat
set_option maxRecDepth 100000
set_option maxHeartbeats 2000000
open Go.RowKit Go.Shelf
theorem qf9 {xs zs : Nm} {d : Nat} (h : xs.length = d + zs.length) (hs : ∀ j (h1 : d + j < xs.length) (h2 : j < zs.length), sameM xs[d + j] zs[j] = true) : underN xs zs = true := by
 unfold underN
 rw [decide_eq_true (by omega), Bool.true_and, show xs.length - zs.length = d by omega]
 refine qdC (by simp; omega) (fun j h1 h2 => ?_)
 rw [List.getElem_drop]
 exact hs j _ h2
theorem qfe {xs zs : Nm} {d : Nat} (h : xs.length = d + zs.length) (j : Nat) (h1 : d + j < xs.length) (h2 : j < zs.length) (hs : sameM xs[d + j] zs[j] = false) : underN xs zs = false := by
 unfold underN
 rw [decide_eq_true (by omega), Bool.true_and, show xs.length - zs.length = d by omega]
 refine qdj j (by simp; omega) h2 ?_
 rw [List.getElem_drop]; exact hs
theorem qdo {xs zs : Nm} (h : xs.length < zs.length) : underN xs zs = false := by
 unfold underN; rw [decide_eq_false (by omega), Bool.false_and]
section
attribute [local go_sem] Oper.semAt_some
theorem qiG (v u : Value) (xs zs : Nm) (w : World) (hA : StrsAt w v xs) (hU : StrsAt w u zs) (hk : NmOK xs) (hk2 : NmOK zs) :
 Calls Tryz.prog 77 #[v, u] w fun e w' => e = .returned (.bool (underN xs zs)) ∧ Below w.heap.size w w' := by
 obtain ⟨a, c, rfl, _⟩ := id hA
 obtain ⟨a2, c2, rfl, _⟩ := id hU
 have hl1 := hk.1
 have hl2 := hk2.1
 refine (callsIn_wide (n := 5)).1 ?_
 refine callsIn_of_wp_marks Tryz.func77 rfl trivial ?_ rfl
 simp only [Tryz.ntmps77, List.size_toArray, List.length_cons, List.length_nil, Nat.reduceAdd, Nat.reduceSub, Array.replicate_succ, Array.replicate_zero, List.push_toArray, List.append_toArray, List.nil_append, List.cons_append]
 by_cases hlt : xs.length < zs.length
 ·have h0 : underN xs zs = false := qdo hlt
  have H0 := qH0 h0; clear h0
  have hlt' : (xs.length : Int) - (zs.length : Int) < 0 := by omega
  gi_wp2
  have hI : Boxed ((w.alloc (.cells #[.slice a xs.length c] 23)).alloc (.cells #[.bool false] 4)) (w.heap.size + 1) 4 (.bool false) := by
   have := Boxed.new (w.alloc (.cells #[.slice a xs.length c] 23)) 4 (.bool false)
   rwa [World.size_alloc] at this
  refine ⟨_, qaP rfl Tryz.underlying4 _ _ rfl (hI.alloc _).cell, by rw [H0.out], ?_⟩
  exact (((Below.refl _ w).alloc (qN0) _).alloc (by simp) _).alloc (by simp; omega) _
 obtain ⟨d, hd⟩ : ∃ d, xs.length = d + zs.length := ⟨xs.length - zs.length, by omega⟩
 have hsub : (xs.length : Int) - (zs.length : Int) = (d : Int) := by omega
 have HD := qH0 hd; clear hd
 have HS := qH0 hsub; clear hsub
 have hge : ¬ (xs.length : Int) - (zs.length : Int) < 0 := by omega
 clear hlt
 gi_wp2_with (refine ⟨trivial, ?_⟩; gi_at_call 70; refine (callsIn_wide.2 (qd6 _ _ _ _)).mono ?_; rintro e w' ⟨rfl, rfl⟩)
 rw [HS.out]
 obtain ⟨W0, hW0⟩ : ∃ W0, ((((w.alloc (.cells #[.slice a xs.length c] 23)).alloc (.cells #[.bool false] 4)).alloc (.cells #[.int .i64 d] 3)).alloc (.cells #[.slice a2 zs.length c2] 23)) = W0 := ⟨_, rfl⟩
 have bN : Boxed W0 w.heap.size 23 (.slice a xs.length c) := by rw [← hW0]; exact (((Boxed.new w _ _).alloc _).alloc _).alloc _
 have bI : Boxed W0 (w.heap.size + 1) 4 (.bool false) := by
  have := Boxed.new (w.alloc (.cells #[.slice a xs.length c] 23)) 4 (.bool false)
  rw [World.size_alloc] at this
  rw [← hW0]; exact (this.alloc _).alloc _
 have bD : Boxed W0 (w.heap.size + 1 + 1) 3 (.int .i64 d) := by
  have := Boxed.new ((w.alloc (.cells #[.slice a xs.length c] 23)).alloc (.cells #[.bool false] 4)) 3 (.int .i64 d)
  rw [World.size_alloc, World.size_alloc] at this
  rw [← hW0]; exact this.alloc _
 have bV : Boxed W0 (w.heap.size + 1 + 1 + 1) 23 (.slice a2 zs.length c2) := by
  have := Boxed.new (((w.alloc (.cells #[.slice a xs.length c] 23)).alloc (.cells #[.bool false] 4)).alloc (.cells #[.int .i64 d] 3)) 23 (.slice a2 zs.length c2)
  rw [World.size_alloc, World.size_alloc, World.size_alloc] at this
  rw [← hW0]; exact this
 have hsz : W0.heap.size = w.heap.size + 4 := by rw [← hW0]; simp
 have hB0 : Below w.heap.size w W0 := by rw [← hW0]; exact ((((Below.refl _ w).alloc (qN0) _).alloc (by simp) _).alloc (by simp; omega) _).alloc (by simp; omega) _
 have hrow := hU.row_lt
 rw [hW0]
 have HZ := qH0 hsz; clear hsz hW0
 refine wpIn_rangeFunc_ownG rfl (by omega) (gf := 94) (lb := #[.pointer (some ⟨w.heap.size + 1 + 1 + 1, 0, none⟩)]) rfl trivial (enters_of Tryz.func94 (by kernel_rfl) rfl)
  (qdw _ (by omega) (w.heap.size + 1 + 1 + 1) (.slice a2 zs.length c2) zs (by unfold maxLen; omega) W0 (by rw [HZ.out]; omega) bV.cell (hU.below hB0)) qfk (qa9 (by rw [HZ.out]; omega) (fun g e => by have := hrow g e; rw [HZ.out]; omega)) (qL0) (fun _ => rfl)
  (fun pre W => Boxed W w.heap.size 23 (.slice a xs.length c) ∧ Boxed W (w.heap.size + 1) 4 (.bool false) ∧ Boxed W (w.heap.size + 1 + 1) 3 (.int .i64 d) ∧ Below w.heap.size w W ∧ ∀ j ∈ pre, ∀ h : d + j.val < xs.length, sameM xs[d + j.val] zs[j] = true)
  (fun k _ W => k = .ret ∧ Boxed W (w.heap.size + 1) 4 (.bool false) ∧ Below w.heap.size w W ∧ underN xs zs = false)
  (OwnFrom.and (Own.from (boxed_own _ _ _) _) (OwnFrom.and (Own.from (boxed_own _ _ _) _) (OwnFrom.and (Own.from (boxed_own _ _ _) _) (OwnFrom.and (ownFrom_below (qN0) (by rw [HZ.out]; omega)) (ownFrom_pure _ _)))))
  (fun _ => OwnFrom.and (ownFrom_pure _ _) (OwnFrom.and (Own.from (boxed_own _ _ _) _) (OwnFrom.and (ownFrom_below (qN0) (by rw [HZ.out]; omega)) (ownFrom_pure _ _))))
  ⟨bN, bI, bD, hB0, by simp⟩
  (fun j => { tmps := #[.slice a xs.length c, .slice a2 zs.length c2, .pointer (some ⟨w.heap.size, 0, none⟩), undef, .pointer (some ⟨w.heap.size + 1, 0, none⟩), .pointer (some ⟨w.heap.size + 1 + 1, 0, none⟩), .int .i64 (j.val : Int), .string ⟨zs[j].toArray⟩, .slice a xs.length c, .int .i64 xs.length, .slice a2 zs.length c2, .int .i64 zs.length, .int .i64 d, .int .i64 d, .bool false, .slice a2 zs.length c2, .func (.func 94) #[] #[.pointer (some ⟨w.heap.size + 1 + 1 + 1, 0, none⟩)], .int .i64 (j.val : Int), .string ⟨zs[j].toArray⟩, undef, undef, undef, undef, undef, undef, undef, undef, undef], defers := [] }) ?assign ?body ?done ?stop
 case assign =>
  intro l x W K hK
  unfold idxV strV
  gi_wp2
  exact hK
 case body =>
  rintro l pre x W ⟨hN, hI, hD2, hB, hC⟩ hlt
  have cn := hN.cell
  have cd := hD2.cell
  have c0 := hI.cell; have f0 := hI.frozen
  have hzi : x.val < zs.length := x.isLt
  have hxi : d + x.val < xs.length := by have := HD.out; omega
  obtain ⟨g, off, rfl, hg, hcell⟩ := hA.cell hB (d + x.val) hxi
  have hz1 : zs[x].length ≤ 1048576 := hk2.get x.val x.isLt
  have hx1 : xs[d + x.val].length ≤ 1048576 := hk.get (d + x.val) hxi
  obtain ⟨sz, hsz0, hszz, hszv⟩ := str_of zs[x]
  obtain ⟨sx, hsx0, hsxz, hsxv⟩ := str_of xs[d + x.val]
  have hS := fun W => qeX sx sz W (by unfold maxLen; omega) (by unfold maxLen; omega)
  rw [hsz0, hsx0] at hS
  rw [str_at hszv]
  rw [hsxv] at hcell
  generalize hq : sameM xs[d + x.val] zs[x] = q at *
  have HQ := qH0 hq
  clear hsz0 hszz hszv hsx0 hsxz hsxv hx1 hz1 hq
  cases q with
  | true =>
   gi_wp2_with (refine ⟨trivial, ?_⟩; gi_at_call 36; refine (CallsIn.inRound l (callsIn_wide.2 (hS _))).mono ?_; rintro e w' ⟨rfl, n, rfl⟩)
   refine ⟨(qaO _ _).from _, KeepN.drewN _ _, hN, hI, hD2, qaz hB _, ?_⟩
   intro j hj h
   rcases List.mem_append.1 hj with hj | hj
   ·exact hC j hj h
   ·obtain rfl := List.mem_singleton.1 hj; exact HQ.out
  | false =>
   have H0 : Hid (underN xs zs = false) := qH0 (qfe HD.out x.val hxi hzi HQ.out)
   gi_wp2_with (refine ⟨trivial, ?_⟩; gi_at_call 36; refine (CallsIn.inRound l (callsIn_wide.2 (hS _))).mono ?_; rintro e w' ⟨rfl, n, rfl⟩)
   refine ⟨((qaO _ _).trans (KeepsOthers.setCell _ _ _)).from _, rfl, ?_, ?_, H0.out⟩
   ·exact Boxed.set (.bool false) (show Boxed (W.drewN n) (w.heap.size + 1) 4 (.bool false) from hI)
   ·exact (qaz hB _).setCell (p := ⟨w.heap.size + 1, 0, none⟩) (by simp) _
 case done =>
  rintro D ys W hD rfl ⟨hN, hI, hD2, hB, hC⟩ hK
  have c0 := hI.cell; have f0 := hI.frozen
  have hDn : w.heap.size + 1 ≠ D := by have := HZ.out; omega
  have hS : underN xs zs = true := qf9 HD.out (fun j h1 h2 => hC ⟨j, h2⟩ (by simp) h1)
  have HT := qH0 hS; clear hS hC
  gi_wp2
  refine ⟨by simp, .inl ⟨_, _, rfl, run_takeDeferred (qaw hK hDn.symm _), ?_⟩⟩
  refine ⟨_, qaP rfl Tryz.underlying4 _ _ rfl (qaq (hI.set _) hDn _), by rw [HT.out], ?_⟩
  exact qal (hB.setCell (p := ⟨w.heap.size + 1, 0, none⟩) (by simp) _) (by have := HZ.out; omega) (qN0)
 case stop =>
  rintro D c pre W hD hp ⟨rfl, hI, hB, hC⟩ hK
  have hDn : w.heap.size + 1 ≠ D := by have := HZ.out; omega
  have HC := qH0 hC; clear hC
  gi_wp2
  refine ⟨by simp, .inl ⟨_, _, rfl, run_takeDeferred hK, ?_⟩⟩
  refine ⟨_, qaP rfl Tryz.underlying4 _ _ rfl (qaq hI hDn _), by rw [HC.out], ?_⟩
  exact qal hB (by have := HZ.out; omega) (qN0)
end
end Go.Proofs.YtnpnfajgphpabaaGreat
