import Derived.Laws.Rows
import Derived.Test.YtckammgnmgkieaaGreatMQ38
import Derived.Test.YtckammgnmgkieaaGreatMQ29
namespace Go.Proofs.YtckammgnmgkieaaGreat
set_option maxRecDepth 100000
set_option maxHeartbeats 1000000
open Go.RowKit Go.Shelf
def rowOf : Value → Option Nat
 | .slice (some a) (_ + 1) _ => some a.block
 | _ => none
theorem qbd {a : Addr} {n c k : Nat} (h : k < n) : rowOf (.slice (some a) n c) = some a.block := by
 cases n with
 | zero => omega
 | succ n => rfl
theorem StrsAt.row_lt {W : World} {v : Value} {xs : List (List UInt8)} (h : StrsAt W v xs) : ∀ g, rowOf v = some g → g < W.heap.size := by
 obtain ⟨a, c, rfl, hx⟩ := h
 intro g hg
 rcases hx with e | ⟨b, off, rfl, hb, _⟩
 ·subst e; cases a <;> cases hg
 ·cases xs with
  | nil => cases hg
  | cons x r => cases hg; exact hb
def KeepN (b : Nat) (v : Value) (W W' : World) : Prop := KeepB b W W' ∧ ∀ g, rowOf v = some g → KeepB g W W'
theorem KeepN.refl (b : Nat) (v : Value) (W : World) : KeepN b v W W := ⟨KeepB.refl _ _, fun _ _ => KeepB.refl _ _⟩
theorem KeepN.trans {b : Nat} {v : Value} {A B C : World} (h : KeepN b v A B) (k : KeepN b v B C) : KeepN b v A C := ⟨h.1.trans k.1, fun g e => (h.2 g e).trans (k.2 g e)⟩
def StrsIn (n₀ : Nat) (W : World) (v : Value) (xs : List (List UInt8)) : Prop :=
 ∃ a c, v = .slice a xs.length c ∧ (xs = [] ∨ ∃ b off, a = some ⟨b, off, none⟩ ∧ b < n₀ ∧ ∀ j (hj : j < xs.length), W.cell? ⟨b, off + j, none⟩ = some (strV xs[j]))
theorem StrsAt.in {W : World} {v : Value} {xs : List (List UInt8)} (h : StrsAt W v xs) : StrsIn W.heap.size W v xs := h
theorem KeepN.setCell {b c : Nat} {v : Value} (W : World) (u : Value) (hb : b ≠ c) (hg : ∀ g, rowOf v = some g → g ≠ c) : KeepN b v W (W.setCell ⟨c, 0, none⟩ u) := ⟨KeepB.setCell _ _ hb, fun g e => KeepB.setCell _ _ (hg g e)⟩
theorem KeepN.alloc {b : Nat} {v : Value} (W : World) (o : Obj) (hb : b < W.heap.size) (hg : ∀ g, rowOf v = some g → g < W.heap.size) : KeepN b v W (W.alloc o) := ⟨KeepB.alloc _ _ hb, fun g e => KeepB.alloc _ _ (hg g e)⟩
theorem KeepN.below {b n : Nat} {v : Value} {W W' : World} (h : Below n W W') (hb : b < n) (hg : ∀ g, rowOf v = some g → g < n) : KeepN b v W W' := ⟨h.block b hb, fun g e => h.block g (hg g e)⟩
theorem qcJ {b : Nat} {v : Value} {A B C : World} (h : KeepN b v A B) (k : KeepN b v B C) : KeepN b v A C := h.trans k
theorem qaU {b : Nat} {v : Value} {w : World} (hb : b < w.heap.size) (hg : ∀ g, rowOf v = some g → g < w.heap.size) (W : World) (l : Nat) (o o' : Obj) (hl : w.heap.size ≤ l) (h : W.heap[l]? = some o) (h1 : o.isCells = false) (h2 : o.isWalk = false) : KeepN b v W (W.putObj l o') :=
 ⟨qdo hb W l o o' hl h h1 h2, fun g e => qdo (hg g e) W l o o' hl h h1 h2⟩
def idxV (xs : List (List UInt8)) (j : Fin xs.length) : Array Value := #[.int .i64 (j.val : Int), strV xs[j]]
section
attribute [local go_sem] Oper.semAt_some
theorem qak {n k : Nat} (h : k < n) : (List.finRange n).take (k + 1) = (List.finRange n).take k ++ [⟨k, h⟩] := by
 rw [List.take_succ_eq_append_getElem (by simpa using h)]; simp
theorem qjG (n : Nat) (hn : 1 ≤ n) (l b : Nat) (v : Value) (xs : List (List UInt8)) (hs : xs.length ≤ maxLen) (J Jx : List (Fin xs.length) → World → Prop)
 (hY : ∀ pre x W, J pre W → pre.length < xs.length → YieldAt Fence.wide (n - 1) Tryz.prog l (idxV xs x) W fun e W' =>
   (e = .returned (.bool true) ∧ J (pre ++ [x]) W' ∧ KeepN b v W W') ∨ (e = .returned (.bool false) ∧ Jx (pre ++ [x]) W'))
 (W : World) (hc : W.cell? ⟨b, 0, none⟩ = some v) (hA : ∃ a c, v = .slice a xs.length c ∧ (xs = [] ∨ ∃ g off, a = some ⟨g, off, none⟩ ∧ ∀ j (hj : j < xs.length), W.cell? ⟨g, off + j, none⟩ = some (strV xs[j]))) (h0 : J [] W) :
 CallsIn Fence.wide n Tryz.prog 143 #[.func (.yield l) #[] #[], .pointer (some ⟨b, 0, none⟩)] W fun e W' => (∃ v, e = .returned v) ∧
  ((∃ ys, ys = List.finRange xs.length ∧ J ys W') ∨ (∃ pre, pre <+: List.finRange xs.length ∧ Jx pre W')) := by
 unfold maxLen at hs
 obtain ⟨a, c, rfl, hx⟩ := hA
 refine callsIn_of_wp Tryz.func143 rfl trivial ?_ rfl
 simp only [Tryz.ntmps143, List.size_toArray, List.length_cons, List.length_nil, Nat.reduceAdd, Nat.reduceSub, Array.replicate_succ, Array.replicate_zero, List.push_toArray, List.append_toArray, List.nil_append, List.cons_append]
 gi_wp2
 gi_loopw [7] (fun i wr => ∃ k : Nat, k ≤ xs.length ∧ i = .int .i64 k ∧ J ((List.finRange xs.length).take k) wr ∧ KeepN b (.slice a xs.length c) W wr)
  (fun i _ => xs.length - (intOf i).toNat)
 case atStart => exact ⟨0, Nat.zero_le _, rfl, h0, KeepN.refl _ _ _⟩
 case round =>
  obtain ⟨k, hk, rfl, hJs, hnx⟩ := hrel
  by_cases hlt : k < xs.length
  ·rcases hx with e | ⟨g, off, rfl, hcells⟩
   ·subst e; simp at hlt
   have hcell : wr.cell? ⟨g, off + k, none⟩ = some (strV xs[k]) := ((hnx.2 g (qbd hlt)).cell).trans (hcells k hlt)
   obtain ⟨fn, tmps, assign, body, hy, hR⟩ := hY _ ⟨k, hlt⟩ wr hJs (by simp; omega)
   have hcb : wr.cell? ⟨b, 0, none⟩ = some (.slice (some ⟨g, off, none⟩) xs.length c) := hnx.1.cell.trans hc
   unfold idxV at hy
   generalize hsv : strV xs[k] = sv at *
   dsimp only at hy
   clear hcells hsv
   gi_wp2
   refine hR.mono ?_
   rintro e W3 (⟨rfl, hJ3, hk3⟩ | ⟨rfl, hJx3⟩)
   ·gi_wp2
    go_roundw
    case rel => exact ⟨k + 1, by omega, by simp, by rw [qak hlt]; exact hJ3, hnx.trans hk3⟩
    case measure => simp [intOf]; omega
   ·gi_wp2
    refine bodyPost_ret (results_none rfl _ _ _) rfl ?_
    exact ⟨⟨_, rfl⟩, .inr ⟨_, by rw [← qak hlt]; exact List.take_prefix _ _, hJx3⟩⟩
  ·obtain rfl : k = xs.length := by omega
   gi_wp2
   go_end0
   exact ⟨⟨_, rfl⟩, .inl ⟨_, by rw [List.take_of_length_le (by simp)], hJs⟩⟩
theorem qeV {n k : Nat} (h : k < n) : (List.finRange n).reverse.take (n - k) = (List.finRange n).reverse.take (n - (k + 1)) ++ [⟨k, h⟩] := by
 rw [show n - k = n - (k + 1) + 1 by omega, List.take_succ_eq_append_getElem (by simp; omega)]
 congr 1
 simp only [List.getElem_reverse, List.length_finRange, List.getElem_finRange, List.cons.injEq, and_true]
 apply Fin.ext; simp; omega
theorem qjT (n : Nat) (hn : 1 ≤ n) (l b : Nat) (v : Value) (xs : List (List UInt8)) (hs : xs.length ≤ maxLen) (J Jx : List (Fin xs.length) → World → Prop)
 (hY : ∀ pre x W, J pre W → pre.length < xs.length → YieldAt Fence.wide (n - 1) Tryz.prog l (idxV xs x) W fun e W' =>
   (e = .returned (.bool true) ∧ J (pre ++ [x]) W' ∧ KeepN b v W W') ∨ (e = .returned (.bool false) ∧ Jx (pre ++ [x]) W'))
 (W : World) (hc : W.cell? ⟨b, 0, none⟩ = some v) (hA : ∃ a c, v = .slice a xs.length c ∧ (xs = [] ∨ ∃ g off, a = some ⟨g, off, none⟩ ∧ ∀ j (hj : j < xs.length), W.cell? ⟨g, off + j, none⟩ = some (strV xs[j]))) (h0 : J [] W) :
 CallsIn Fence.wide n Tryz.prog 146 #[.func (.yield l) #[] #[], .pointer (some ⟨b, 0, none⟩)] W fun e W' => (∃ v, e = .returned v) ∧
  ((∃ ys, ys = (List.finRange xs.length).reverse ∧ J ys W') ∨ (∃ pre, pre <+: (List.finRange xs.length).reverse ∧ Jx pre W')) := by
 unfold maxLen at hs
 obtain ⟨a, c, rfl, hx⟩ := hA
 refine callsIn_of_wp Tryz.func146 rfl trivial ?_ rfl
 simp only [Tryz.ntmps146, List.size_toArray, List.length_cons, List.length_nil, Nat.reduceAdd, Nat.reduceSub, Array.replicate_succ, Array.replicate_zero, List.push_toArray, List.append_toArray, List.nil_append, List.cons_append]
 gi_wp2
 gi_loopw [3] (fun i wr => ∃ k : Nat, k ≤ xs.length ∧ i = .int .i64 ((k : Int) - 1) ∧ J ((List.finRange xs.length).reverse.take (xs.length - k)) wr ∧ KeepN b (.slice a xs.length c) W wr)
  (fun i _ => (intOf i + 1).toNat)
 case atStart => exact ⟨xs.length, qN0, rfl, by simpa using h0, KeepN.refl _ _ _⟩
 case round =>
  obtain ⟨k, hk, rfl, hJs, hnx⟩ := hrel
  rcases k with _ | k
  ·gi_wp2
   go_end0
   exact ⟨⟨_, rfl⟩, .inl ⟨_, by rw [List.take_of_length_le (by simp)], hJs⟩⟩
  ·have hlt : k < xs.length := hk
   rcases hx with e | ⟨g, off, rfl, hcells⟩
   ·subst e; simp at hlt
   have hcell : wr.cell? ⟨g, off + k, none⟩ = some (strV xs[k]) := ((hnx.2 g (qbd hlt)).cell).trans (hcells k hlt)
   obtain ⟨fn, tmps, assign, body, hy, hR⟩ := hY _ ⟨k, hlt⟩ wr hJs (by simp; omega)
   have hcb : wr.cell? ⟨b, 0, none⟩ = some (.slice (some ⟨g, off, none⟩) xs.length c) := hnx.1.cell.trans hc
   have hk1 : ((k + 1 : Nat) : Int) - 1 = (k : Int) := by omega
   rw [hk1]
   unfold idxV at hy
   generalize hsv : strV xs[k] = sv at *
   dsimp only at hy
   clear hcells hsv hk1
   gi_wp2
   refine hR.mono ?_
   rintro e W3 (⟨rfl, hJ3, hk3⟩ | ⟨rfl, hJx3⟩)
   ·gi_wp2
    go_roundw
    case rel => exact ⟨k, by omega, by go_num, by rw [qeV hlt]; exact hJ3, hnx.trans hk3⟩
    case measure => simp [intOf]
   ·gi_wp2
    refine bodyPost_ret (results_none rfl _ _ _) rfl ?_
    exact ⟨⟨_, rfl⟩, .inr ⟨_, by rw [← qeV hlt]; exact List.take_prefix _ _, hJx3⟩⟩
theorem qb3 (n : Nat) (hn : 1 ≤ n) (b : Nat) (v : Value) (xs : List (List UInt8)) (hs : xs.length ≤ maxLen) (w : World) (hb : b < w.heap.size)
 (hc : w.cell? ⟨b, 0, none⟩ = some v) (hA : StrsAt w v xs) :
 SeqStopsK Fence.wide n Tryz.prog 143 #[.pointer (some ⟨b, 0, none⟩)] (idxV xs) (KeepN b v) (fun ys => ys = List.finRange xs.length) (fun pre => pre <+: List.finRange xs.length) xs.length w := fun l J Jx W hW _ _ hY h0 => by
 refine qjG n hn l b v xs hs J Jx hY W ((hW.cell (p := ⟨b, 0, none⟩) hb).trans hc) ?_ h0
 obtain ⟨a, c, e, h⟩ := hA
 exact ⟨a, c, e, h.imp id fun ⟨g, off, ea, hg, hcs⟩ => ⟨g, off, ea, fun j hj => (hW.cell (p := ⟨g, off + j, none⟩) hg).trans (hcs j hj)⟩⟩
theorem qd5 (n : Nat) (hn : 1 ≤ n) (b : Nat) (v : Value) (xs : List (List UInt8)) (hs : xs.length ≤ maxLen) (w : World) (hb : b < w.heap.size)
 (hc : w.cell? ⟨b, 0, none⟩ = some v) (hA : StrsAt w v xs) :
 SeqStopsK Fence.wide n Tryz.prog 146 #[.pointer (some ⟨b, 0, none⟩)] (idxV xs) (KeepN b v) (fun ys => ys = (List.finRange xs.length).reverse) (fun pre => pre <+: (List.finRange xs.length).reverse) xs.length w := fun l J Jx W hW _ _ hY h0 => by
 refine qjT n hn l b v xs hs J Jx hY W ((hW.cell (p := ⟨b, 0, none⟩) hb).trans hc) ?_ h0
 obtain ⟨a, c, e, h⟩ := hA
 exact ⟨a, c, e, h.imp id fun ⟨g, off, ea, hg, hcs⟩ => ⟨g, off, ea, fun j hj => (hW.cell (p := ⟨g, off + j, none⟩) hg).trans (hcs j hj)⟩⟩
theorem qcl (a : Option Addr) (n c : Nat) (w : World) :
 Calls Tryz.prog 103 #[.slice a n c] w fun e w' => e = .returned (.func (.func 143) #[] #[.pointer (some ⟨w.heap.size, 0, none⟩)]) ∧ w' = w.alloc (.cells #[.slice a n c] 24) := by
 go_enter Tryz.func103, Tryz.ntmps103
 go_wp2
 go_ret
 exact ⟨rfl, rfl⟩
theorem qeS (a : Option Addr) (n c : Nat) (w : World) :
 Calls Tryz.prog 106 #[.slice a n c] w fun e w' => e = .returned (.func (.func 146) #[] #[.pointer (some ⟨w.heap.size, 0, none⟩)]) ∧ w' = w.alloc (.cells #[.slice a n c] 24) := by
 go_enter Tryz.func106, Tryz.ntmps106
 go_wp2
 go_ret
 exact ⟨rfl, rfl⟩
end
end Go.Proofs.YtckammgnmgkieaaGreat
namespace Go.Proofs.YtckammgnmgkieaaGreat
set_option maxRecDepth 100000
set_option maxHeartbeats 2000000
open Go.RowKit Go.Shelf
def NmOK (xs : Nm) : Prop := xs.length ≤ 1048576 ∧ ∀ x ∈ xs, x.length ≤ 1048576
theorem NmOK.get {xs : Nm} (h : NmOK xs) (j : Nat) (hj : j < xs.length) : xs[j].length ≤ 1048576 := h.2 _ (List.getElem_mem hj)
theorem qgn (xs : Nm) : (List.finRange xs.length).map (fun j => xs[j]) = xs := by
 apply List.ext_getElem (by simp)
 intro j h1 h2; simp
def sumN (xs : Nm) (pre : List (Fin xs.length)) : Nat := lenN (pre.map fun j => xs[j])
theorem qm9 {xs : Nm} (h : NmOK xs) (pre : List (Fin xs.length)) : sumN xs pre ≤ 1 + pre.length * 1048577 := by
 unfold sumN
 induction pre with
 | nil => simp [lenN]
 | cons j r ih =>
  have := h.get j.val j.isLt
  simp only [List.map_cons, qli, List.length_cons, Fin.getElem_fin] at ih ⊢
  omega
theorem qkJ (xs : Nm) (pre : List (Fin xs.length)) (j : Fin xs.length) : sumN xs (pre ++ [j]) = sumN xs pre + 1 + xs[j].length := by
 unfold sumN; rw [List.map_append]; exact qen _ _
section
attribute [local go_sem] Oper.semAt_some
theorem qlM (v : Value) (xs : Nm) (w : World) (hA : StrsAt w v xs) (hk : NmOK xs) :
 Calls Tryz.prog 198 #[v] w fun e w' => e = .returned (.int .i64 (lenN xs : Int)) ∧ Below w.heap.size w w' := by
 obtain ⟨a, c, rfl, hx⟩ := id hA
 refine (callsIn_wide (n := 5)).1 ?_
 refine callsIn_of_wp_marks Tryz.func198 rfl trivial ?_ rfl
 simp only [Tryz.ntmps198, List.size_toArray, List.length_cons, List.length_nil, Nat.reduceAdd, Nat.reduceSub, Array.replicate_succ, Array.replicate_zero, List.push_toArray, List.append_toArray, List.nil_append, List.cons_append]
 gi_wp2_with (refine ⟨trivial, ?_⟩; gi_at_call 103; refine (callsIn_wide.2 (qcl _ _ _ _)).mono ?_; rintro e w' ⟨rfl, rfl⟩)
 obtain ⟨W0, hW0⟩ : ∃ W0, ((w.alloc (.cells #[.int .i64 1] 3)).alloc (.cells #[.slice a xs.length c] 24)) = W0 := ⟨_, rfl⟩
 have bI : Boxed W0 w.heap.size 3 (.int .i64 1) := by rw [← hW0]; exact (Boxed.new w _ _).alloc _
 have bV : Boxed W0 (w.heap.size + 1) 24 (.slice a xs.length c) := by
  have := Boxed.new (w.alloc (.cells #[.int .i64 1] 3)) 24 (.slice a xs.length c)
  rw [World.size_alloc] at this
  rw [← hW0]; exact this
 have hsz : W0.heap.size = w.heap.size + 2 := by rw [← hW0]; simp
 have hB0 : Below w.heap.size w W0 := by rw [← hW0]; exact ((Below.refl _ w).alloc (qN0) _).alloc (by simp) _
 have hrow := hA.row_lt
 rw [hW0]
 have HZ := qH0 hsz; clear hsz hW0
 refine wpIn_rangeFunc_ownG rfl (by omega) (gf := 143) (lb := #[.pointer (some ⟨w.heap.size + 1, 0, none⟩)]) rfl trivial (enters_of Tryz.func143 (by kernel_rfl) rfl)
  (qb3 _ (by omega) (w.heap.size + 1) (.slice a xs.length c) xs (by have := hk.1; unfold maxLen; omega) W0 (by rw [HZ.out]; omega) bV.cell (hA.below hB0)) qcJ (qaU (by rw [HZ.out]; omega) (fun g e => by have := hrow g e; rw [HZ.out]; omega)) (qL0) (fun _ => rfl)
  (fun pre W => Boxed W w.heap.size 3 (.int .i64 (sumN xs pre : Int)) ∧ Below w.heap.size w W)
  (fun _ _ _ => False)
  (OwnFrom.and (Own.from (boxed_own _ _ _) _) (ownFrom_below (qN0) (by rw [HZ.out]; omega)))
  (fun _ _ _ _ _ hs _ _ => hs)
  ⟨bI, hB0⟩
  (fun j => { tmps := #[.slice a xs.length c, undef, .int .i64 0, .pointer (some ⟨w.heap.size, 0, none⟩), undef, .string ⟨xs[j].toArray⟩, .slice a xs.length c, .func (.func 143) #[] #[.pointer (some ⟨w.heap.size + 1, 0, none⟩)], .int .i64 (j.val : Int), .string ⟨xs[j].toArray⟩, undef, undef, undef, undef, undef, undef], defers := [] }) ?assign ?body ?done ?stop
 case assign =>
  intro l x W K hK
  unfold idxV strV
  gi_wp2
  exact hK
 case body =>
  rintro l pre x W ⟨hI, hB⟩ hlt
  have c0 := hI.cell; have f0 := hI.frozen
  have hsn := qkJ xs pre x
  have hx1 : xs[x].length ≤ 1048576 := hk.get x.val x.isLt
  have hsum := qm9 hk pre
  have hl1 := hk.1
  have hmz : (⟨xs[x].toArray⟩ : ByteArray).size = xs[x].length := qeD _
  generalize (⟨xs[x].toArray⟩ : ByteArray) = sx at *
  rw [← hmz] at hsn hx1
  have HS := qH0 hsn; clear hsn hmz
  generalize hq : sumN xs pre = q at *
  have hq2 : q ≤ 1099512676353 := by omega
  clear hsum hq
  gi_wp2
  exact ⟨(KeepsOthers.setCell _ _ _).from _, KeepN.setCell _ _ (by omega) (fun g e => by have := hrow g e; omega), by rw [HS.out]; have := hI.set (.int .i64 ((q : Int) + (1 + (sx.size : Int)))); rw [show ((q + 1 + sx.size : Nat) : Int) = (q : Int) + (1 + (sx.size : Int)) by omega]; exact this, hB.setCell (p := ⟨w.heap.size, 0, none⟩) (qN0) _⟩
 case done =>
  rintro D ys W hD rfl ⟨hI, hB⟩ hK
  have c0 := hI.cell
  have hall : sumN xs (List.finRange xs.length) = lenN xs := by unfold sumN; rw [qgn]
  rw [hall] at c0
  gi_wp2
  refine ⟨by simp, .inl ⟨_, _, rfl, run_takeDeferred hK, ?_⟩⟩
  exact ⟨_, results_tmp rfl _ _ _, rfl, hB.trans (belowK_b (w := w) (qN0) W D _ _ (by have := HZ.out; omega) hK rfl rfl)⟩
 case stop =>
  rintro D c pre W _ _ h _
  exact h.elim
end
end Go.Proofs.YtckammgnmgkieaaGreat
namespace Go.Proofs.YtckammgnmgkieaaGreat
set_option maxRecDepth 20000
open Go.RowKit Go.Shelf
theorem qau {fn : Func} {t : Tmp} {T : TypeId} {k : IntKind} (h : fn.results = #[.cell t T]) (hT : Tryz.prog.underlying T = some (.int k)) (tmps : Array Value) (W : World) {b : Nat} {v : Value}
 (ht : tmps.getD t undef = .pointer (some ⟨b, 0, none⟩)) (hc : W.cell? ⟨b, 0, none⟩ = some v) : (results fn tmps).run Tryz.prog W = .ok v W := by
 have ht' : tmps[t]?.getD undef = .pointer (some ⟨b, 0, none⟩) := by rw [← ht]; simp
 have hu : ∀ w, Sem.run Tryz.prog (underlying T) w = .ok _ w := run_underlying hT
 simp [results, h, ht', loadVar, asAddr, go_sem, hu, hc, isAgg]
theorem qa9 {fn : Func} {t : Tmp} {T : TypeId} (h : fn.results = #[.cell t T]) (hT : Tryz.prog.underlying T = some .bool) (tmps : Array Value) (W : World) {b : Nat} {v : Value}
 (ht : tmps.getD t undef = .pointer (some ⟨b, 0, none⟩)) (hc : W.cell? ⟨b, 0, none⟩ = some v) : (results fn tmps).run Tryz.prog W = .ok v W := by
 have ht' : tmps[t]?.getD undef = .pointer (some ⟨b, 0, none⟩) := by rw [← ht]; simp
 have hu : ∀ w, Sem.run Tryz.prog (underlying T) w = .ok _ w := run_underlying hT
 simp [results, h, ht', loadVar, asAddr, go_sem, hu, hc, isAgg]
theorem qaA {W : World} {h D : Nat} {T : TypeId} {v : Value} (hb : Boxed W h T v) (hne : h ≠ D) (o : Obj) : (W.putObj D o).cell? ⟨h, 0, none⟩ = some v :=
 (hb.kept (grownBy_putObj' W D o) (by intro e; cases e; exact hne rfl)).cell
theorem qaG {W : World} {h D : Nat} {o : Obj} (hK : W.heap[D]? = some o) (hne : D ≠ h) (u : Value) : (W.setCell ⟨h, 0, none⟩ u).heap[D]? = some o := by
 rw [Below.heap_setCell W ⟨h, 0, none⟩ u D hne]; exact hK
theorem qjE {W W' : World} {D : Nat} {o : Obj} (hK : W.heap[D]? = some o) (hb : Below W.heap.size W W') : W'.heap[D]? = some o :=
 (hb.block D (Array.getElem?_eq_some_iff.1 hK).1).trans hK
theorem qal {n D : Nat} {w W : World} {o' : Obj} (h : Below n w W) (hD : n ≤ D) (hn : n ≤ w.heap.size) : Below n w (W.putObj D o') :=
 h.trans ((Below.refl n W).grown (grownBy_putObj' W D o') (Nat.le_trans hn h.size) (fun k e => by cases e; exact hD))
end Go.Proofs.YtckammgnmgkieaaGreat
namespace Go.Proofs.YtckammgnmgkieaaGreat
set_option maxRecDepth 100000
set_option maxHeartbeats 2000000
open Go.RowKit Go.Shelf
def atN (xs : Nm) (pre : List (Fin xs.length)) : Nm := pre.map fun j => xs[j]
theorem qim (xs : Nm) (pre : List (Fin xs.length)) (j : Fin xs.length) : atN xs (pre ++ [j]) = atN xs pre ++ [xs[j]] := by simp [atN]
theorem qjd (xs : Nm) : atN xs (List.finRange xs.length) = xs := qgn xs
theorem qjQ {xs : Nm} {pre : List (Fin xs.length)} (h : pre <+: List.finRange xs.length) : atN xs pre <+: xs := by
 have := h.map fun j => xs[j]; rwa [qgn] at this
section
attribute [local go_sem] Oper.semAt_some
theorem qkb (v : Value) (xs : Nm) (w : World) (hA : StrsAt w v xs) (hk : NmOK xs) :
 Calls Tryz.prog 174 #[v] w fun e w' => e = .returned (.int .i64 (checkN xs)) ∧ Below w.heap.size w w' := by
 obtain ⟨a, c, rfl, hx⟩ := id hA
 refine (callsIn_wide (n := 5)).1 ?_
 refine callsIn_of_wp_marks Tryz.func174 rfl trivial ?_ rfl
 simp only [Tryz.ntmps174, List.size_toArray, List.length_cons, List.length_nil, Nat.reduceAdd, Nat.reduceSub, Array.replicate_succ, Array.replicate_zero, List.push_toArray, List.append_toArray, List.nil_append, List.cons_append]
 gi_wp2_with (refine ⟨trivial, ?_⟩; gi_at_call 103; refine (callsIn_wide.2 (qcl _ _ _ _)).mono ?_; rintro e w' ⟨rfl, rfl⟩)
 obtain ⟨W0, hW0⟩ : ∃ W0, ((w.alloc (.cells #[.int .i64 0] 192)).alloc (.cells #[.slice a xs.length c] 24)) = W0 := ⟨_, rfl⟩
 have bI : Boxed W0 w.heap.size 192 (.int .i64 0) := by rw [← hW0]; exact (Boxed.new w _ _).alloc _
 have bV : Boxed W0 (w.heap.size + 1) 24 (.slice a xs.length c) := by
  have := Boxed.new (w.alloc (.cells #[.int .i64 0] 192)) 24 (.slice a xs.length c)
  rw [World.size_alloc] at this
  rw [← hW0]; exact this
 have hsz : W0.heap.size = w.heap.size + 2 := by rw [← hW0]; simp
 have hB0 : Below w.heap.size w W0 := by rw [← hW0]; exact ((Below.refl _ w).alloc (qN0) _).alloc (by simp) _
 have hrow := hA.row_lt
 rw [hW0]
 have HZ := qH0 hsz; clear hsz hW0
 refine wpIn_rangeFunc_ownG rfl (by omega) (gf := 143) (lb := #[.pointer (some ⟨w.heap.size + 1, 0, none⟩)]) rfl trivial (enters_of Tryz.func143 (by kernel_rfl) rfl)
  (qb3 _ (by omega) (w.heap.size + 1) (.slice a xs.length c) xs (by have := hk.1; unfold maxLen; omega) W0 (by rw [HZ.out]; omega) bV.cell (hA.below hB0)) qcJ (qaU (by rw [HZ.out]; omega) (fun g e => by have := hrow g e; rw [HZ.out]; omega)) (qL0) (fun _ => rfl)
  (fun pre W => Boxed W w.heap.size 192 (.int .i64 0) ∧ Below w.heap.size w W ∧ checkL (atN xs pre) = 0)
  (fun k pre W => k = .ret ∧ Boxed W w.heap.size 192 (.int .i64 (checkL (atN xs pre))) ∧ Below w.heap.size w W ∧ checkL (atN xs pre) ≠ 0)
  (OwnFrom.and (Own.from (boxed_own _ _ _) _) (OwnFrom.and (ownFrom_below (qN0) (by rw [HZ.out]; omega)) (ownFrom_pure _ _)))
  (fun _ => OwnFrom.and (ownFrom_pure _ _) (OwnFrom.and (Own.from (boxed_own _ _ _) _) (OwnFrom.and (ownFrom_below (qN0) (by rw [HZ.out]; omega)) (ownFrom_pure _ _))))
  ⟨bI, hB0, rfl⟩
  (fun j => { tmps := #[.slice a xs.length c, undef, .pointer (some ⟨w.heap.size, 0, none⟩), undef, .string ⟨xs[j].toArray⟩, undef, .slice a xs.length c, .func (.func 143) #[] #[.pointer (some ⟨w.heap.size + 1, 0, none⟩)], .int .i64 (j.val : Int), .string ⟨xs[j].toArray⟩, undef, undef, undef, undef, undef, undef, undef, undef], defers := [] }) ?assign ?body ?done ?stop
 case assign =>
  intro l x W K hK
  unfold idxV strV
  gi_wp2
  exact hK
 case body =>
  rintro l pre x W ⟨hI, hB, hC⟩ hlt
  have c0 := hI.cell; have f0 := hI.frozen
  have hx1 : xs[x].length ≤ 1048576 := hk.get x.val x.isLt
  have hsn : checkL (atN xs (pre ++ [x])) = qam xs[x] := by rw [qim, qeT, if_pos hC]
  obtain ⟨sx, hsx, hsz, hsv⟩ := str_of xs[x]
  have hCk := fun W => qi1 sx W (by unfold maxLen; omega)
  rw [hsx] at hCk
  rw [show (⟨xs[x].toArray⟩ : ByteArray) = sx from by unfold strV at hsv; cases hsv; rfl]
  have HS := qH0 hsn
  clear hsx hsz hsv hsn hx1
  generalize hq : qam xs[x] = q at *
  by_cases hq0 : (q != 0) = true
  ·have hn : q ≠ 0 := by simpa using hq0
   have HN := qH0 hn; clear hn hq
   gi_wp2_with (refine ⟨trivial, ?_⟩; gi_at_call 197; refine (CallsIn.inRound l (callsIn_wide.2 (hCk _))).mono ?_; rintro e w' ⟨rfl, rfl⟩)
   exact ⟨(KeepsOthers.setCell _ _ _).from _, rfl, by rw [HS.out]; exact hI.set _, hB.setCell (p := ⟨w.heap.size, 0, none⟩) (qN0) _, by rw [HS.out]; exact HN.out⟩
  ·have hn : (q != 0) = false := by simpa using hq0
   have HN := qH0 hn
   clear hq0 hq
   gi_wp2_with (refine ⟨trivial, ?_⟩; gi_at_call 197; refine (CallsIn.inRound l (callsIn_wide.2 (hCk _))).mono ?_; rintro e w' ⟨rfl, rfl⟩)
   exact ⟨(KeepsOthers.refl _).from _, KeepN.refl _ _ _, hI, hB, by rw [HS.out]; simpa using HN.out⟩
 case done =>
  rintro D ys W hD rfl ⟨hI, hB, hC⟩ hK
  rw [qjd] at hC
  have c0 := hI.cell
  have HC := qH0 hC; clear hC
  have hL := qlM (.slice a xs.length c) xs W (hA.below hB) hk
  have hDn : w.heap.size ≠ D := by have := HZ.out; omega
  have hd : checkN xs = if 255 < (lenN xs : Int) then 3 else 0 := by
   unfold checkN; rw [if_pos HC.out]
   by_cases h : 255 < lenN xs
   ·rw [if_pos h, if_pos (by omega)]
   ·rw [if_neg h, if_neg (by omega)]
  have HD := qH0 hd; clear hd
  generalize hq : lenN xs = q at *
  clear hq
  gi_wp2_with (refine ⟨trivial, ?_⟩; gi_at_call 198; refine (callsIn_wide.2 hL).mono ?_; rintro e w2 ⟨rfl, hb2⟩; have hI2 : Boxed w2 w.heap.size 192 (.int .i64 0) := (hb2.block w.heap.size hI.lt).trans hI; have c2 := hI2.cell; have f2 := hI2.frozen; have hK2 := qjE hK hb2)
  ·refine ⟨by simp, .inl ⟨_, _, rfl, run_takeDeferred (qaG hK2 hDn.symm _), ?_⟩⟩
   refine ⟨_, qau rfl Tryz.underlying192 _ _ rfl (qaA (hI2.set _) hDn _), ?_, ?_⟩
   ·rw [HD.out, if_pos (by assumption)]
   ·exact qal ((qB0 hB hb2).setCell (p := ⟨w.heap.size, 0, none⟩) (qN0) _) (by have := HZ.out; omega) (qN0)
  ·refine ⟨by simp, .inl ⟨_, _, rfl, run_takeDeferred (qaG hK2 hDn.symm _), ?_⟩⟩
   refine ⟨_, qau rfl Tryz.underlying192 _ _ rfl (qaA (hI2.set _) hDn _), ?_, ?_⟩
   ·rw [HD.out, if_neg (by omega)]
   ·exact qal ((qB0 hB hb2).setCell (p := ⟨w.heap.size, 0, none⟩) (qN0) _) (by have := HZ.out; omega) (qN0)
 case stop =>
  rintro D c pre W hD hp ⟨rfl, hI, hB, hC⟩ hK
  have hS := qdr (qjQ hp) hC
  have hDn : w.heap.size ≠ D := by have := HZ.out; omega
  gi_wp2
  refine ⟨by simp, .inl ⟨_, _, rfl, run_takeDeferred hK, ?_⟩⟩
  refine ⟨_, qau rfl Tryz.underlying192 _ _ rfl (qaA hI hDn _), ?_, ?_⟩
  ·rw [hS]
  ·exact qal hB (by have := HZ.out; omega) (qN0)
end
end Go.Proofs.YtckammgnmgkieaaGreat
namespace Go.Proofs.YtckammgnmgkieaaGreat
set_option maxRecDepth 100000
set_option maxHeartbeats 2000000
open Go.RowKit Go.Shelf
theorem KeepN.drewN {b : Nat} {v : Value} (W : World) (n : Nat) : KeepN b v W (W.drewN n) := ⟨rfl, fun _ _ => rfl⟩
theorem qaP (W : World) (n : Nat) : KeepsOthers W (W.drewN n) := ⟨qN0, fun _ _ h _ => h⟩
theorem qaz {B : Nat} {a w : World} (h : Below B a w) (n : Nat) : Below B a (w.drewN n) := h.trans ⟨rfl, rfl, rfl, qN0, fun _ _ => rfl⟩
theorem StrsAt.cell {W W' : World} {a : Option Addr} {c : Nat} {xs : Nm} (h : StrsAt W (.slice a xs.length c) xs) (hb : Below W.heap.size W W') (j : Nat) (hj : j < xs.length) :
 ∃ g off, a = some ⟨g, off, none⟩ ∧ g < W.heap.size ∧ W'.cell? ⟨g, off + j, none⟩ = some (strV xs[j]) := by
 obtain ⟨a', c', e, hx⟩ := h
 cases e
 rcases hx with e | ⟨g, off, rfl, hg, hc⟩
 ·subst e; simp at hj
 ·exact ⟨g, off, rfl, hg, (hb.cell (p := ⟨g, off + j, none⟩) hg).trans (hc j hj)⟩
theorem str_at {l : List UInt8} {s : ByteArray} (h : strV l = .string s) : (⟨l.toArray⟩ : ByteArray) = s := by unfold strV at h; cases h; rfl
section
attribute [local go_sem] Oper.semAt_some
theorem qkB (v u : Value) (xs ys : Nm) (w : World) (hA : StrsAt w v xs) (hU : StrsAt w u ys) (hk : NmOK xs) (hk2 : NmOK ys) :
 Calls Tryz.prog 57 #[v, u] w fun e w' => e = .returned (.bool (sameN xs ys)) ∧ Below w.heap.size w w' := by
 obtain ⟨a, c, rfl, _⟩ := id hA
 obtain ⟨a2, c2, rfl, _⟩ := id hU
 refine (callsIn_wide (n := 5)).1 ?_
 refine callsIn_of_wp_marks Tryz.func57 rfl trivial ?_ rfl
 simp only [Tryz.ntmps57, List.size_toArray, List.length_cons, List.length_nil, Nat.reduceAdd, Nat.reduceSub, Array.replicate_succ, Array.replicate_zero, List.push_toArray, List.append_toArray, List.nil_append, List.cons_append]
 by_cases hne : ((xs.length : Int) != (ys.length : Int)) = true
 ·have h0 : sameN xs ys = false := qgO (by intro e; rw [e] at hne; simp at hne)
  have H0 := qH0 h0; clear h0
  gi_wp2
  have hI : Boxed ((w.alloc (.cells #[.slice a2 ys.length c2] 24)).alloc (.cells #[.bool false] 4)) (w.heap.size + 1) 4 (.bool false) := by
   have := Boxed.new (w.alloc (.cells #[.slice a2 ys.length c2] 24)) 4 (.bool false)
   rwa [World.size_alloc] at this
  refine ⟨_, qa9 rfl Tryz.underlying4 _ _ rfl hI.cell, by rw [H0.out], ?_⟩
  exact ((Below.refl _ w).alloc (qN0) _).alloc (by simp) _
 have hlen : ((xs.length : Int) != (ys.length : Int)) = false := by simpa using hne
 have hel : xs.length = ys.length := by simp at hlen; omega
 have HE := qH0 hel; clear hel hne
 gi_wp2_with (refine ⟨trivial, ?_⟩; gi_at_call 103; refine (callsIn_wide.2 (qcl _ _ _ _)).mono ?_; rintro e w' ⟨rfl, rfl⟩)
 obtain ⟨W0, hW0⟩ : ∃ W0, (((w.alloc (.cells #[.slice a2 ys.length c2] 24)).alloc (.cells #[.bool false] 4)).alloc (.cells #[.slice a xs.length c] 24)) = W0 := ⟨_, rfl⟩
 have bU : Boxed W0 w.heap.size 24 (.slice a2 ys.length c2) := by rw [← hW0]; exact ((Boxed.new w _ _).alloc _).alloc _
 have bI : Boxed W0 (w.heap.size + 1) 4 (.bool false) := by
  have := Boxed.new (w.alloc (.cells #[.slice a2 ys.length c2] 24)) 4 (.bool false)
  rw [World.size_alloc] at this
  rw [← hW0]; exact this.alloc _
 have bV : Boxed W0 (w.heap.size + 1 + 1) 24 (.slice a xs.length c) := by
  have := Boxed.new ((w.alloc (.cells #[.slice a2 ys.length c2] 24)).alloc (.cells #[.bool false] 4)) 24 (.slice a xs.length c)
  rw [World.size_alloc, World.size_alloc] at this
  rw [← hW0]; exact this
 have hsz : W0.heap.size = w.heap.size + 3 := by rw [← hW0]; simp
 have hB0 : Below w.heap.size w W0 := by rw [← hW0]; exact (((Below.refl _ w).alloc (qN0) _).alloc (by simp) _).alloc (by simp; omega) _
 have hrow := hA.row_lt
 rw [hW0]
 have HZ := qH0 hsz; clear hsz hW0
 refine wpIn_rangeFunc_ownG rfl (by omega) (gf := 143) (lb := #[.pointer (some ⟨w.heap.size + 1 + 1, 0, none⟩)]) rfl trivial (enters_of Tryz.func143 (by kernel_rfl) rfl)
  (qb3 _ (by omega) (w.heap.size + 1 + 1) (.slice a xs.length c) xs (by have := hk.1; unfold maxLen; omega) W0 (by rw [HZ.out]; omega) bV.cell (hA.below hB0)) qcJ (qaU (by rw [HZ.out]; omega) (fun g e => by have := hrow g e; rw [HZ.out]; omega)) (qL0) (fun _ => rfl)
  (fun pre W => Boxed W w.heap.size 24 (.slice a2 ys.length c2) ∧ Boxed W (w.heap.size + 1) 4 (.bool false) ∧ Below w.heap.size w W ∧ ∀ j ∈ pre, ∀ h : j.val < ys.length, sameM xs[j] ys[j.val] = true)
  (fun k _ W => k = .ret ∧ Boxed W (w.heap.size + 1) 4 (.bool false) ∧ Below w.heap.size w W ∧ sameN xs ys = false)
  (OwnFrom.and (Own.from (boxed_own _ _ _) _) (OwnFrom.and (Own.from (boxed_own _ _ _) _) (OwnFrom.and (ownFrom_below (qN0) (by rw [HZ.out]; omega)) (ownFrom_pure _ _))))
  (fun _ => OwnFrom.and (ownFrom_pure _ _) (OwnFrom.and (Own.from (boxed_own _ _ _) _) (OwnFrom.and (ownFrom_below (qN0) (by rw [HZ.out]; omega)) (ownFrom_pure _ _))))
  ⟨bU, bI, hB0, by simp⟩
  (fun j => { tmps := #[.slice a xs.length c, .slice a2 ys.length c2, undef, .pointer (some ⟨w.heap.size, 0, none⟩), .pointer (some ⟨w.heap.size + 1, 0, none⟩), .int .i64 (j.val : Int), .string ⟨xs[j].toArray⟩, .slice a xs.length c, .int .i64 xs.length, .slice a2 ys.length c2, .int .i64 ys.length, .bool false, .slice a xs.length c, .func (.func 143) #[] #[.pointer (some ⟨w.heap.size + 1 + 1, 0, none⟩)], .int .i64 (j.val : Int), .string ⟨xs[j].toArray⟩, undef, undef, undef, undef, undef, undef, undef], defers := [] }) ?assign ?body ?done ?stop
 case assign =>
  intro l x W K hK
  unfold idxV strV
  gi_wp2
  exact hK
 case body =>
  rintro l pre x W ⟨hU2, hI, hB, hC⟩ hlt
  have cu := hU2.cell
  have c0 := hI.cell; have f0 := hI.frozen
  have hxi : x.val < xs.length := x.isLt
  have hyi : x.val < ys.length := by rw [← HE.out]; exact hxi
  obtain ⟨g, off, rfl, hg, hcell⟩ := hU.cell hB x.val hyi
  have hx1 : xs[x].length ≤ 1048576 := hk.get x.val x.isLt
  have hy1 : ys[x.val].length ≤ 1048576 := hk2.get x.val hyi
  obtain ⟨sx, hsx, hsz, hsv⟩ := str_of xs[x]
  obtain ⟨sy, hsy, hsz2, hsv2⟩ := str_of ys[x.val]
  have hS := fun W => qfD sx sy W (by unfold maxLen; omega) (by unfold maxLen; omega)
  rw [hsx, hsy] at hS
  rw [str_at hsv]
  rw [hsv2] at hcell
  generalize hq : sameM xs[x] ys[x.val] = q at *
  have HQ := qH0 hq
  clear hsx hsy hsz hsz2 hsv hsv2 hx1 hy1 hq
  cases q with
  | true =>
   gi_wp2_with (refine ⟨trivial, ?_⟩; gi_at_call 107; refine (CallsIn.inRound l (callsIn_wide.2 (hS _))).mono ?_; rintro e w' ⟨rfl, n, rfl⟩)
   refine ⟨(qaP _ _).from _, KeepN.drewN _ _, hU2, hI, qaz hB _, ?_⟩
   intro j hj h
   rcases List.mem_append.1 hj with hj | hj
   ·exact hC j hj h
   ·obtain rfl := List.mem_singleton.1 hj; exact HQ.out
  | false =>
   have H0 : Hid (sameN xs ys = false) := qH0 (qdW x.val hxi hyi HQ.out)
   gi_wp2_with (refine ⟨trivial, ?_⟩; gi_at_call 107; refine (CallsIn.inRound l (callsIn_wide.2 (hS _))).mono ?_; rintro e w' ⟨rfl, n, rfl⟩)
   refine ⟨((qaP _ _).trans (KeepsOthers.setCell _ _ _)).from _, rfl, ?_, ?_, H0.out⟩
   ·exact Boxed.set (.bool false) (show Boxed (W.drewN n) (w.heap.size + 1) 4 (.bool false) from hI)
   ·exact (qaz hB _).setCell (p := ⟨w.heap.size + 1, 0, none⟩) (by simp) _
 case done =>
  rintro D zs W hD rfl ⟨hU2, hI, hB, hC⟩ hK
  have c0 := hI.cell; have f0 := hI.frozen
  have hDn : w.heap.size + 1 ≠ D := by have := HZ.out; omega
  have hS : sameN xs ys = true := qef HE.out (fun j h1 h2 => hC ⟨j, h1⟩ (List.mem_finRange _) h2)
  have HS := qH0 hS; clear hS hC
  gi_wp2
  refine ⟨by simp, .inl ⟨_, _, rfl, run_takeDeferred (qaG hK hDn.symm _), ?_⟩⟩
  refine ⟨_, qa9 rfl Tryz.underlying4 _ _ rfl (qaA (hI.set _) hDn _), by rw [HS.out], ?_⟩
  exact qal (hB.setCell (p := ⟨w.heap.size + 1, 0, none⟩) (by simp) _) (by have := HZ.out; omega) (qN0)
 case stop =>
  rintro D c pre W hD hp ⟨rfl, hI, hB, hC⟩ hK
  have hDn : w.heap.size + 1 ≠ D := by have := HZ.out; omega
  have HC := qH0 hC; clear hC
  gi_wp2
  refine ⟨by simp, .inl ⟨_, _, rfl, run_takeDeferred hK, ?_⟩⟩
  refine ⟨_, qa9 rfl Tryz.underlying4 _ _ rfl (qaA hI hDn _), by rw [HC.out], ?_⟩
  exact qal hB (by have := HZ.out; omega) (qN0)
end
end Go.Proofs.YtckammgnmgkieaaGreat
namespace Go.Proofs.YtckammgnmgkieaaGreat
set_option maxRecDepth 20000
open Go.RowKit Go.Shelf
section
variable {α : Type} {T : TypeId} {enc : α → Value}
theorem OwnG.set {W : World} {base : Nat} {g n c : Nat} {xs : List α} (h : OwnG T enc W base (.slice (some ⟨g, 0, none⟩) n c) xs) (j : Nat) (y : α) :
 OwnG T enc (W.setCell ⟨g, j, none⟩ (enc y)) base (.slice (some ⟨g, 0, none⟩) n c) (xs.set j y) := by
 obtain ⟨h1, h2⟩ := h
 refine ⟨by simp, ?_⟩
 rcases h2 with ⟨e, _⟩ | ⟨g', cap, cur, e, hb, hg, hc, hm, hsz, htk⟩
 ·cases e
 ·right
  simp only [Value.slice.injEq, Option.some.injEq, Addr.mk.injEq, and_true] at e
  obtain ⟨rfl, rfl, rfl⟩ := e
  refine ⟨g, c, cur.setIfInBounds j (enc y), by simp, hb, heap_setCell_same W g j cur T (enc y) hg, by simpa using hc, hm, by simpa using hsz, ?_⟩
  rw [List.length_set, Array.toList_setIfInBounds, List.take_set, htk, List.map_set]
theorem OwnG.lit (W : World) (base : Nat) (hb : base ≤ W.heap.size) (ys : List α) (hm : ys.length ≤ maxLen) :
 OwnG T enc (W.alloc (.cells (ys.map enc).toArray T)) base (.slice (some ⟨W.heap.size, 0, none⟩) ys.length ys.length) ys := by
 refine ⟨by simp, .inr ⟨W.heap.size, ys.length, (ys.map enc).toArray, rfl, hb, World.alloc_heap_new W _, qN0, hm, by simp, ?_⟩⟩
 simp only [Nat.mul_one]
 exact List.take_of_length_le (by simp)
end
end Go.Proofs.YtckammgnmgkieaaGreat
namespace Go.Proofs.YtckammgnmgkieaaGreat
set_option maxRecDepth 20000
open Go.RowKit Go.Shelf
def splitR : List UInt8 → List UInt8 → List (List UInt8) → List (List UInt8) × Int
 | [], cur, done => (done ++ [cur], 0)
 | [c], cur, done => if c = 46 then (done ++ [cur] ++ [[]], 0) else if c = 92 then ([], 2) else (done ++ [cur ++ [c]], 0)
 | c :: x :: r, cur, done => if c = 46 then splitR (x :: r) [] (done ++ [cur]) else if c = 92 then splitR r (cur ++ [92, x]) done else splitR (x :: r) (cur ++ [c]) done
theorem qfv (r cur : List UInt8) (done : List (List UInt8)) : splitR (46 :: r) cur done = splitR r [] (done ++ [cur]) := by
 cases r <;> simp [splitR]
theorem qcx (x : UInt8) (r cur : List UInt8) (done : List (List UInt8)) : splitR (92 :: x :: r) cur done = splitR r (cur ++ [92, x]) done := by
 simp [splitR]
theorem qeN (cur : List UInt8) (done : List (List UInt8)) : splitR [92] cur done = ([], 2) := by
 simp [splitR]
theorem qb0 {c : UInt8} (h1 : c ≠ 46) (h2 : c ≠ 92) (r cur : List UInt8) (done : List (List UInt8)) : splitR (c :: r) cur done = splitR r (cur ++ [c]) done := by
 cases r <;> simp [splitR, h1, h2]
theorem qlU (l : List UInt8) : (spRun l).at' = l.length := (qgU l).1
theorem qkY (pre rest : List UInt8) (a b : Nat) (hb : b ≤ pre.length) : piece (pre ++ rest) (a, b) = piece pre (a, b) := by
 unfold piece; simp only; rw [List.take_append_of_le_length hb]
theorem qgr (l : List UInt8) : ∀ p ∈ (spRun l).parts, p.2 ≤ l.length := by
 suffices h : ∀ (l : List UInt8) (t : SpSt) (n : Nat), t.at' = n → (∀ p ∈ t.parts, p.2 ≤ n) → ∀ p ∈ (l.foldl spStep t).parts, p.2 ≤ n + l.length by
  have := h l ⟨0, 0, false, []⟩ 0 rfl (by simp)
  unfold spRun; simpa using this
 intro l
 induction l with
 | nil => intro t n h1 h2; simpa using h2
 | cons c l ih =>
  intro t n h1 h2
  have := ih (spStep t c) (n + 1) (by unfold spStep; split <;> (try split) <;> (try split) <;> simp [h1]) (by
   intro p hp
   unfold spStep at hp
   split at hp
   ·have := h2 p hp; omega
   ·split at hp
    ·have := h2 p hp; omega
    ·split at hp
     ·simp only [List.mem_append, List.mem_singleton] at hp
      rcases hp with hp | rfl
      ·have := h2 p hp; omega
      ·simp; omega
     ·have := h2 p hp; omega)
  simp only [List.foldl_cons, List.length_cons]
  intro p hp
  have := this p hp
  omega
theorem qiZ : ∀ (n : Nat) (rest pre : List UInt8), rest.length ≤ n → (spRun pre).taken = false →
 splitM (pre ++ rest) = splitR rest (pre.drop (spRun pre).start) ((spRun pre).parts.map (piece pre)) := by
 intro n
 induction n with
 | zero =>
  intro rest pre hn ht
  obtain rfl : rest = [] := List.eq_nil_of_length_eq_zero (by omega)
  rw [List.append_nil]
  unfold splitM splitR
  rw [if_neg (by simp [ht])]
 | succ n ih =>
  intro rest pre hn ht
  have hst := (qgU pre).2.1
  have hparts : ∀ (x : UInt8) (q : List UInt8), (spRun pre).parts.map (piece (pre ++ x :: q)) = (spRun pre).parts.map (piece pre) := by
   intro x q
   apply List.map_congr_left
   intro p hp
   exact qkY pre _ p.1 p.2 (qgr pre p hp)
  match rest with
  | [] =>
   rw [List.append_nil]
   unfold splitM splitR
   rw [if_neg (by simp [ht])]
  | c :: r =>
   by_cases h1 : c = 46
   ·subst h1
    have e : spRun (pre ++ [46]) = ⟨(spRun pre).at' + 1, (spRun pre).at' + 1, false, (spRun pre).parts ++ [((spRun pre).start, (spRun pre).at')]⟩ := by
     rw [qbY]; exact qjD ht (by decide)
    have := ih r (pre ++ [46]) (by simp at hn; omega) (by rw [e])
    rw [List.append_assoc] at this
    rw [show pre ++ 46 :: r = pre ++ ([46] ++ r) from rfl, this, qfv, e]
    simp only [List.map_append, List.map_cons, List.map_nil, qlU]
    rw [hparts 46 [], List.drop_eq_nil_of_le (by simp)]
    congr 2
    unfold piece
    simp
   ·by_cases h2 : c = 92
    ·subst h2
     match r with
     | [] =>
      have e : (spRun (pre ++ [92])).taken = true := by rw [qbY, qd1 ht (by decide)]
      rw [qeN]
      unfold splitM
      rw [if_pos e]
     | x :: r =>
      have e1 : spRun (pre ++ [92]) = ⟨(spRun pre).at' + 1, (spRun pre).start, true, (spRun pre).parts⟩ := by rw [qbY]; exact qd1 ht (by decide)
      have e : spRun (pre ++ [92] ++ [x]) = ⟨(spRun pre).at' + 1 + 1, (spRun pre).start, false, (spRun pre).parts⟩ := by rw [qbY, qh9 (by rw [e1]), e1]
      have := ih r (pre ++ [92] ++ [x]) (by simp at hn; omega) (by rw [e])
      rw [show pre ++ 92 :: x :: r = pre ++ [92] ++ [x] ++ r by simp, this, qcx, e]
      simp only
      rw [show pre ++ [92] ++ [x] = pre ++ 92 :: [x] by simp, hparts 92 [x], List.drop_append_of_le_length hst]
    ·have e : spRun (pre ++ [c]) = ⟨(spRun pre).at' + 1, (spRun pre).start, false, (spRun pre).parts⟩ := by
      rw [qbY]; unfold spStep; simp [ht, h1, h2]
     have := ih r (pre ++ [c]) (by simp at hn; omega) (by rw [e])
     rw [show pre ++ c :: r = pre ++ [c] ++ r by simp, this, qb0 h1 h2, e]
     simp only
     rw [hparts c [], List.drop_append_of_le_length hst]
theorem qle (s : List UInt8) : splitM s = splitR s [] [] := by
 have := qiZ s.length s [] (qN0) rfl
 simpa [spRun] using this
theorem qhy (c : UInt8) (r cur : List UInt8) (done : List (List UInt8)) : splitR (octetW c ++ r) cur done = splitR r (cur ++ octetW c) done := by
 have hc := c.toNat_lt
 by_cases hsp : qaC c = true
 ·rw [qbg hsp]; exact qcx c r cur done
 ·have hsp0 : qaC c = false := by simpa using hsp
  have s1 : ¬ (c.toNat = 46 ∨ c.toNat = 92 ∨ c.toNat = 34 ∨ c.toNat = 40 ∨ c.toNat = 41 ∨ c.toNat = 59 ∨ c.toNat = 64 ∨ c.toNat = 36) := of_decide_eq_false hsp0
  by_cases hpl : 33 ≤ (c.toNat : Int) ∧ (c.toNat : Int) ≤ 126
  ·rw [qbw hsp0 hpl.1 hpl.2]
   have e1 : c ≠ 46 := by intro e; subst e; simp at s1
   have e2 : c ≠ 92 := by intro e; subst e; simp at s1
   exact qb0 e1 e2 r cur done
  ·rw [qbW hsp0 (by omega)]
   have e2 : (48 + c / 10 % 10 : UInt8).toNat = 48 + c.toNat / 10 % 10 := by rw [UInt8.toNat_add, UInt8.toNat_mod, UInt8.toNat_div]; simp only [UInt8.reduceToNat]; omega
   have e3 : (48 + c % 10 : UInt8).toNat = 48 + c.toNat % 10 := by rw [UInt8.toNat_add, UInt8.toNat_mod]; simp only [UInt8.reduceToNat]; omega
   have n1 : ∀ x : UInt8, 48 ≤ x.toNat → x.toNat ≤ 57 → x ≠ 46 ∧ x ≠ 92 := by
    intro x h1 h2; constructor <;> (intro e; subst e; simp at h1 h2)
   have d2 := n1 (48 + c / 10 % 10) (by omega) (by omega)
   have d3 := n1 (48 + c % 10) (by omega) (by omega)
   unfold qax
   simp only [List.cons_append, List.nil_append]
   rw [qcx, qb0 d2.1 d2.2, qb0 d3.1 d3.2]
   simp
theorem qc9 : ∀ (l r cur : List UInt8) (done : List (List UInt8)), splitR (textL l ++ r) cur done = splitR r (cur ++ textL l) done
 | [], r, cur, done => by simp [textL]
 | c :: l, r, cur, done => by
  rw [qds, List.append_assoc, qhy, qc9 l]; simp
def joinL : List (List UInt8) → List UInt8
 | [] => []
 | x :: xs => textL x ++ xs.flatMap fun y => 46 :: textL y
theorem qkc {xs : List (List UInt8)} (h : xs ≠ []) (y : List UInt8) : joinL (xs ++ [y]) = joinL xs ++ [46] ++ textL y := by
 cases xs with
 | nil => exact absurd rfl h
 | cons x xs => simp [joinL]
theorem qdU : ∀ (xs : List (List UInt8)) (cur : List UInt8) (done : List (List UInt8)), splitR (xs.flatMap fun y => 46 :: textL y) cur done = (done ++ [cur] ++ xs.map textL, 0)
 | [], cur, done => by simp [splitR]
 | x :: xs, cur, done => by
  rw [List.flatMap_cons, List.cons_append, qfv, qc9, qdU xs]; simp
theorem qjF {xs : List (List UInt8)} (h : xs ≠ []) : splitM (joinL xs) = (xs.map textL, 0) := by
 cases xs with
 | nil => exact absurd rfl h
 | cons x xs => rw [qle]; unfold joinL; rw [qc9, qdU]; simp
def readN : Nm → Nm × Int
 | [] => ([], 0)
 | p :: r => if (parseM p).2 = 0 then (if (readN r).2 = 0 then ((parseM p).1 :: (readN r).1, 0) else ([], (readN r).2)) else ([], (parseM p).2)
def wholeN (ps : Nm) : Bool := decide (ps.getLast? = some [])
def partsN (ps : Nm) : Nm := if wholeN ps then ps.dropLast else ps
def endN (ps : Nm) (o : Nm) : Nm × Int :=
 if (readN (partsN ps)).2 = 0 then
  (if checkN (if wholeN ps then (readN (partsN ps)).1 else (readN (partsN ps)).1 ++ o) = 0 then (if wholeN ps then (readN (partsN ps)).1 else (readN (partsN ps)).1 ++ o, 0)
   else ([], checkN (if wholeN ps then (readN (partsN ps)).1 else (readN (partsN ps)).1 ++ o)))
 else ([], (readN (partsN ps)).2)
def parseN (s : List UInt8) (o : Nm) : Nm × Int :=
 if s = [64] then (o, 0) else if s = [46] then ([], 0) else if s = [] then ([], 8)
 else if (splitM s).2 = 0 then endN (splitM s).1 o else ([], (splitM s).2)
theorem qfF {n : Nm} (h : checkL n = 0) : ∀ x ∈ n, qam x = 0 := by
 induction n with
 | nil => simp
 | cons y r ih =>
  simp only [checkL] at h
  by_cases e : qam y = 0
  ·rw [if_pos e] at h; intro x hx; rcases List.mem_cons.1 hx with rfl | hx
   ·exact e
   ·exact ih h x hx
  ·rw [if_neg e] at h; exact absurd h e
theorem ql2 {n : Nm} (h : checkN n = 0) : checkL n = 0 := by
 unfold checkN at h; by_cases e : checkL n = 0
 ·exact e
 ·rw [if_neg e] at h; exact h
theorem qgf {l : List UInt8} (h : qam l = 0) : l ≠ [] ∧ l.length ≤ 63 := by
 unfold qam at h
 by_cases e : l = []
 ·rw [if_pos e] at h; cases h
 ·rw [if_neg e] at h
  by_cases e2 : 63 < l.length
  ·rw [if_pos e2] at h; cases h
  ·exact ⟨e, by omega⟩
theorem qjy {n : Nm} (h : checkL n = 0) : readN (n.map textL) = (n, 0) := by
 induction n with
 | nil => rfl
 | cons x r ih =>
  have hx := qfF h x (by simp)
  have hr : checkL r = 0 := by simp only [checkL] at h; rw [if_pos hx] at h; exact h
  have hp : parseM (textL x) = (x, 0) := by rw [qjP, if_pos hx]
  simp only [List.map_cons, readN, hp, ih hr, if_true]
theorem qjS : ∀ (n : Nm), n ≠ [] → joinL (n ++ [[]]) = n.flatMap fun x => textL x ++ [46] := by
 intro n hn
 rw [qkc hn]
 show joinL n ++ [46] ++ textL [] = _
 have ht : textL [] = [] := rfl
 rw [ht, List.append_nil]
 induction n with
 | nil => exact absurd rfl hn
 | cons x r ih =>
  by_cases hr : r = []
  ·subst hr; simp [joinL]
  ·have := ih hr
   rw [List.flatMap_cons, ← this]
   cases r with
   | nil => exact absurd rfl hr
   | cons y t => simp [joinL, List.append_assoc]
end Go.Proofs.YtckammgnmgkieaaGreat
