/-
  slices.Backward over names: its iterator; what keeps a row by its type.
-/
import Derived.Test.YtbnkecmhmcligaaMQ24
import Derived.Test.YtbnkecmhmcligaaMQ18
namespace Go.Proofs.Ytbnkecmhmcligaa
set_option linter.unusedVariables false
set_option linter.unusedSimpArgs false
set_option maxRecDepth 20000
open Go.RowKit Go.Shelf
set_option maxRecDepth 20000
theorem grownT_below {W W' : World} (hb : Below W.heap.size W W') : W.grownBy W' none := ⟨hb.os, hb.tape, hb.output, hb.size, fun k hk _ => hb.block k hk⟩
theorem OwnT.below {β : Type} {B : Nat} {I : β → World → Prop} (h : OwnT B I) {s : β} {W W' : World} (hs : I s W) (hb : Below W.heap.size W W') : I s W' := h s W W' none hs (grownT_below hb) (fun r e => by cases e)
/-- Rows of texts, boxes of names and of loops' bodies lie as they lay. -/
def KTy (t : TypeId) : Prop := t = 9 ∨ t = 28 ∨ t = 67
def KeepTy (W W' : World) : Prop := W.heap.size ≤ W'.heap.size ∧ ∀ (k : Nat) (cs : Array Value) (t : TypeId), KTy t → W.heap[k]? = some (Obj.cells cs t) → W'.heap[k]? = some (Obj.cells cs t)
theorem KeepTy.refl (W : World) : KeepTy W W := ⟨Nat.le_refl _, fun _ _ _ _ h => h⟩
theorem KeepTy.trans {A B C : World} (h : KeepTy A B) (k : KeepTy B C) : KeepTy A C := ⟨Nat.le_trans h.1 k.1, fun j cs t ht a => k.2 j cs t ht (h.2 j cs t ht a)⟩
theorem keepTy_t {A B C : World} (h : KeepTy A B) (k : KeepTy B C) : KeepTy A C := h.trans k
theorem KeepTy.of_below {W W' : World} (h : Below W.heap.size W W') : KeepTy W W' := ⟨h.size, fun k cs t _ a => (h.block k (Array.getElem?_eq_some_iff.1 a).1).trans a⟩
theorem KeepTy.grown {W W' : World} {row : Option Nat} (hg : W.grownBy W' row) (hr : ∀ r, row = some r → ∃ o : Obj, W.heap[r]? = some o ∧ ∀ (cs : Array Value) (t : TypeId), KTy t → o ≠ Obj.cells cs t) : KeepTy W W' :=
  ⟨hg.size, fun k cs t ht a => (hg.block k (Array.getElem?_eq_some_iff.1 a).1 (fun e => by obtain ⟨o, ho, hn⟩ := hr k e.symm; rw [a] at ho; cases ho; exact hn cs t ht rfl)).trans a⟩
theorem keepTy_b {w : World} (W : World) (l : Nat) (o o' : Obj) (_ : w.heap.size ≤ l) (h : W.heap[l]? = some o) (h1 : o.isCells = false) (_ : o.isWalk = false) : KeepTy W (W.putObj l o') :=
  KeepTy.grown (grownBy_putObj' W l o') (fun r e => by cases e; exact ⟨o, h, fun cs t _ e2 => (by subst e2; cases h1)⟩)
theorem OwnG.ty {α : Type} {enc : α → Value} {W W' : World} {base : Nat} {v : Value} {xs : List α} (h : OwnG 9 enc W base v xs) (hk : KeepTy W W') : OwnG 9 enc W' base v xs := by
  unfold OwnG World.ownsRow at h ⊢
  refine ⟨h.1, h.2.imp id ?_⟩
  rintro ⟨g, cap, cur, e, hb, hg, r⟩
  exact ⟨g, cap, cur, e, hb, hk.2 g cur _ (.inl rfl) hg, r⟩
theorem Boxed.ty {W W' : World} {b : Nat} {v : Value} (h : Boxed W b 28 v) (hk : KeepTy W W') : Boxed W' b 28 v := hk.2 b #[v] _ (.inr (.inl rfl)) h
/-- A row of texts of the call's own, in a box: what keeps rows and boxes keeps what the iterator reads. -/
theorem keepN_ty {W W' : World} {b base : Nat} {v : Value} {xs : Nm} (hb : Boxed W b 28 v) (ho : OwnG 9 strV W base v xs) (hk : KeepTy W W') : KeepN b v W W' := by
  have h1 : W'.heap[b]? = W.heap[b]? := (Boxed.ty hb hk).trans hb.symm
  refine ⟨h1, fun g hg => ?_⟩
  unfold OwnG World.ownsRow at ho
  rcases ho.2 with ⟨e, _⟩ | ⟨g', cap, cur, e, _, hbl, _⟩
  · rw [e] at hg; cases hg
  · rw [e] at hg
    have : g = g' := by
      generalize List.length _ = q at hg
      cases q with
      | zero => cases hg
      | succ q => cases hg; rfl
    subst this
    exact (hk.2 g cur _ (.inl rfl) hbl).trans hbl.symm
theorem roundIn_wide {m m' : Nat} {P : Program} {l : Nat} {f : FuncId} {tmps : Array Value} {assign body : Code} {w : World} {R : Ending → World → Prop} (h : RoundIn Fence.wide m P l f tmps assign body w R) : RoundIn Fence.wide m' P l f tmps assign body w R :=
  ⟨h.1, fun c cs _ => h.2 c cs (room_wide _)⟩
theorem roundIn_in {m m' : Nat} (l' : Nat) {P : Program} {l : Nat} {f : FuncId} {tmps : Array Value} {assign body : Code} {w : World} {R : Ending → World → Prop} (h : RoundIn Fence.wide m P l f tmps assign body w R) : RoundIn (Fence.wide.inRound l') m' P l f tmps assign body w R :=
  ⟨h.1, fun c cs _ => h.2 c cs (room_wide _)⟩
theorem yieldAt_wide {m : Nat} (m' : Nat) {P : Program} {l : Nat} {args : Array Value} {W : World} {R : Ending → World → Prop} (h : YieldAt Fence.wide m P l args W R) : YieldAt Fence.wide m' P l args W R := by
  obtain ⟨fn, tmps, assign, body, hy, hR⟩ := h
  exact ⟨fn, tmps, assign, body, hy, roundIn_wide hR⟩
section
attribute [local go_sem] Oper.semAt_some
set_option maxRecDepth 100000 in
set_option maxHeartbeats 1000000 in
theorem backN1_in (n : Nat) (hn : 1 ≤ n) (l b : Nat) (v : Value) (xs : List (List UInt8)) (hs : xs.length ≤ maxLen) (J Jx : List (Fin xs.length) → World → Prop)
    (hY : ∀ pre x W, J pre W → pre.length < xs.length → YieldAt Fence.wide (n - 1) Try.prog l (idxV xs x) W fun e W' =>
      (e = .returned (.bool true) ∧ J (pre ++ [x]) W' ∧ KeepN b v W W') ∨ (e = .returned (.bool false) ∧ Jx (pre ++ [x]) W'))
    (W : World) (hc : W.cell? ⟨b, 0, none⟩ = some v) (hA : ∃ a c, v = .slice a xs.length c ∧ (xs = [] ∨ ∃ g off, a = some ⟨g, off, none⟩ ∧ ∀ j (hj : j < xs.length), W.cell? ⟨g, off + j, none⟩ = some (strV xs[j]))) (h0 : J [] W) :
    CallsIn Fence.wide n Try.prog 42 #[.func (.yield l) #[] #[], .pointer (some ⟨b, 0, none⟩)] W fun e W' => (∃ v, e = .returned v) ∧
      ((∃ ys, ys = (List.finRange xs.length).reverse ∧ J ys W') ∨ (∃ pre, pre <+: (List.finRange xs.length).reverse ∧ Jx pre W')) := by
  unfold maxLen at hs
  obtain ⟨a, c, rfl, hx⟩ := hA
  refine callsIn_of_wp Try.func42 rfl trivial ?_ rfl
  simp only [Try.ntmps42, List.size_toArray, List.length_cons, List.length_nil, Nat.reduceAdd, Nat.reduceSub, Array.replicate_succ, Array.replicate_zero, List.push_toArray, List.append_toArray, List.nil_append, List.cons_append]
  gi_wp2
  gi_loopw [3] (fun i wr => ∃ k : Nat, k ≤ xs.length ∧ i = .int .i64 ((k : Int) - 1) ∧ J ((List.finRange xs.length).reverse.take (xs.length - k)) wr ∧ KeepN b (.slice a xs.length c) W wr)
    (fun i _ => (intOf i + 1).toNat)
  case atStart => exact ⟨xs.length, Nat.le_refl _, rfl, by simpa using h0, KeepN.refl _ _ _⟩
  case round =>
    obtain ⟨k, hk, rfl, hJs, hnx⟩ := hrel
    rcases k with _ | k
    · gi_wp2
      go_end0
      exact ⟨⟨_, rfl⟩, .inl ⟨_, by rw [List.take_of_length_le (by simp)], hJs⟩⟩
    · have hlt : k < xs.length := hk
      rcases hx with e | ⟨g, off, rfl, hcells⟩
      · subst e; simp at hlt
      have hcell : wr.cell? ⟨g, off + k, none⟩ = some (strV xs[k]) := ((hnx.2 g (rowOf_at hlt)).cell).trans (hcells k hlt)
      obtain ⟨fn, tmps, assign, body, hy, hR⟩ := hY _ ⟨k, hlt⟩ wr hJs (by simp; omega)
      have hcb : wr.cell? ⟨b, 0, none⟩ = some (.slice (some ⟨g, off, none⟩) xs.length c) := hnx.1.cell.trans hc
      have hk1 : ((k + 1 : Nat) : Int) - 1 = (k : Int) := by omega
      rw [hk1]
      unfold idxV at hy
      generalize hsv : strV xs[k] = sv at *
      dsimp only at hy
      clear hcells hsv hk1
      gi_wp2
      refine hR.mono ?_
      rintro e W3 (⟨rfl, hJ3, hk3⟩ | ⟨rfl, hJx3⟩)
      · gi_wp2
        go_roundw
        case rel => exact ⟨k, by omega, by go_num, by rw [finRev_succ hlt]; exact hJ3, hnx.trans hk3⟩
        case measure => simp [intOf]
      · gi_wp2
        refine bodyPost_ret (results_none rfl _ _ _) rfl ?_
        exact ⟨⟨_, rfl⟩, .inr ⟨_, by rw [← finRev_succ hlt]; exact List.take_prefix _ _, hJx3⟩⟩

theorem backN_stops (n : Nat) (hn : 1 ≤ n) (b : Nat) (v : Value) (xs : List (List UInt8)) (hs : xs.length ≤ maxLen) (w : World) (hb : b < w.heap.size)
    (hc : w.cell? ⟨b, 0, none⟩ = some v) (hA : StrsAt w v xs) :
    SeqStopsT Fence.wide n Try.prog 42 #[.pointer (some ⟨b, 0, none⟩)] (idxV xs) (KeepN b v) (fun ys => ys = (List.finRange xs.length).reverse) (fun pre => pre <+: (List.finRange xs.length).reverse) xs.length w := fun l J Jx W hW _ _ hY h0 => by
  refine backN1_in n hn l b v xs hs J Jx (fun pre x W1 hj hl => (hY pre x W1 hj hl).mono (fun e w h => h.imp (fun h => ⟨h.1, h.2.1, h.2.2.1⟩) (fun h => ⟨h.1, h.2.1⟩))) W ((hW.cell (p := ⟨b, 0, none⟩) hb).trans hc) ?_ h0
  obtain ⟨a, c, e, h⟩ := hA
  exact ⟨a, c, e, h.imp id fun ⟨g, off, ea, hg, hcs⟩ => ⟨g, off, ea, fun j hj => (hW.cell (p := ⟨g, off + j, none⟩) hg).trans (hcs j hj)⟩⟩

set_option maxHeartbeats 400000 in
theorem backN (a : Option Addr) (n c : Nat) (w : World) :
    Calls Try.prog 32 #[.slice a n c] w fun e w' => e = .returned (.func (.func 42) #[] #[.pointer (some ⟨w.heap.size, 0, none⟩)]) ∧ w' = w.alloc (.cells #[.slice a n c] 28) := by
  go_enter Try.func32, Try.ntmps32
  go_wp2
  go_ret
  exact ⟨rfl, rfl⟩
set_option maxRecDepth 100000 in
set_option maxHeartbeats 1000000 in
theorem backS1_in (n : Nat) (hn : 1 ≤ n) (l b : Nat) (v : Value) (xs : List (List UInt8)) (hs : xs.length ≤ maxLen) (J Jx : List (Fin xs.length) → World → Prop)
    (hY : ∀ pre x W, J pre W → pre.length < xs.length → YieldAt Fence.wide (n - 1) Try.prog l (idxV xs x) W fun e W' =>
      (e = .returned (.bool true) ∧ J (pre ++ [x]) W' ∧ KeepN b v W W') ∨ (e = .returned (.bool false) ∧ Jx (pre ++ [x]) W'))
    (W : World) (hc : W.cell? ⟨b, 0, none⟩ = some v) (hA : ∃ a c, v = .slice a xs.length c ∧ (xs = [] ∨ ∃ g off, a = some ⟨g, off, none⟩ ∧ ∀ j (hj : j < xs.length), W.cell? ⟨g, off + j, none⟩ = some (strV xs[j]))) (h0 : J [] W) :
    CallsIn Fence.wide n Try.prog 43 #[.func (.yield l) #[] #[], .pointer (some ⟨b, 0, none⟩)] W fun e W' => (∃ v, e = .returned v) ∧
      ((∃ ys, ys = (List.finRange xs.length).reverse ∧ J ys W') ∨ (∃ pre, pre <+: (List.finRange xs.length).reverse ∧ Jx pre W')) := by
  unfold maxLen at hs
  obtain ⟨a, c, rfl, hx⟩ := hA
  refine callsIn_of_wp Try.func43 rfl trivial ?_ rfl
  simp only [Try.ntmps43, List.size_toArray, List.length_cons, List.length_nil, Nat.reduceAdd, Nat.reduceSub, Array.replicate_succ, Array.replicate_zero, List.push_toArray, List.append_toArray, List.nil_append, List.cons_append]
  gi_wp2
  gi_loopw [3] (fun i wr => ∃ k : Nat, k ≤ xs.length ∧ i = .int .i64 ((k : Int) - 1) ∧ J ((List.finRange xs.length).reverse.take (xs.length - k)) wr ∧ KeepN b (.slice a xs.length c) W wr)
    (fun i _ => (intOf i + 1).toNat)
  case atStart => exact ⟨xs.length, Nat.le_refl _, rfl, by simpa using h0, KeepN.refl _ _ _⟩
  case round =>
    obtain ⟨k, hk, rfl, hJs, hnx⟩ := hrel
    rcases k with _ | k
    · gi_wp2
      go_end0
      exact ⟨⟨_, rfl⟩, .inl ⟨_, by rw [List.take_of_length_le (by simp)], hJs⟩⟩
    · have hlt : k < xs.length := hk
      rcases hx with e | ⟨g, off, rfl, hcells⟩
      · subst e; simp at hlt
      have hcell : wr.cell? ⟨g, off + k, none⟩ = some (strV xs[k]) := ((hnx.2 g (rowOf_at hlt)).cell).trans (hcells k hlt)
      obtain ⟨fn, tmps, assign, body, hy, hR⟩ := hY _ ⟨k, hlt⟩ wr hJs (by simp; omega)
      have hcb : wr.cell? ⟨b, 0, none⟩ = some (.slice (some ⟨g, off, none⟩) xs.length c) := hnx.1.cell.trans hc
      have hk1 : ((k + 1 : Nat) : Int) - 1 = (k : Int) := by omega
      rw [hk1]
      unfold idxV at hy
      generalize hsv : strV xs[k] = sv at *
      dsimp only at hy
      clear hcells hsv hk1
      gi_wp2
      refine hR.mono ?_
      rintro e W3 (⟨rfl, hJ3, hk3⟩ | ⟨rfl, hJx3⟩)
      · gi_wp2
        go_roundw
        case rel => exact ⟨k, by omega, by go_num, by rw [finRev_succ hlt]; exact hJ3, hnx.trans hk3⟩
        case measure => simp [intOf]
      · gi_wp2
        refine bodyPost_ret (results_none rfl _ _ _) rfl ?_
        exact ⟨⟨_, rfl⟩, .inr ⟨_, by rw [← finRev_succ hlt]; exact List.take_prefix _ _, hJx3⟩⟩

theorem backS_stops (n : Nat) (hn : 1 ≤ n) (b : Nat) (v : Value) (xs : List (List UInt8)) (hs : xs.length ≤ maxLen) (w : World) (hb : b < w.heap.size)
    (hc : w.cell? ⟨b, 0, none⟩ = some v) (hA : StrsAt w v xs) :
    SeqStopsT Fence.wide n Try.prog 43 #[.pointer (some ⟨b, 0, none⟩)] (idxV xs) (KeepN b v) (fun ys => ys = (List.finRange xs.length).reverse) (fun pre => pre <+: (List.finRange xs.length).reverse) xs.length w := fun l J Jx W hW _ _ hY h0 => by
  refine backS1_in n hn l b v xs hs J Jx (fun pre x W1 hj hl => (hY pre x W1 hj hl).mono (fun e w h => h.imp (fun h => ⟨h.1, h.2.1, h.2.2.1⟩) (fun h => ⟨h.1, h.2.1⟩))) W ((hW.cell (p := ⟨b, 0, none⟩) hb).trans hc) ?_ h0
  obtain ⟨a, c, e, h⟩ := hA
  exact ⟨a, c, e, h.imp id fun ⟨g, off, ea, hg, hcs⟩ => ⟨g, off, ea, fun j hj => (hW.cell (p := ⟨g, off + j, none⟩) hg).trans (hcs j hj)⟩⟩

set_option maxHeartbeats 400000 in
theorem backS (a : Option Addr) (n c : Nat) (w : World) :
    Calls Try.prog 34 #[.slice a n c] w fun e w' => e = .returned (.func (.func 43) #[] #[.pointer (some ⟨w.heap.size, 0, none⟩)]) ∧ w' = w.alloc (.cells #[.slice a n c] 27) := by
  go_enter Try.func34, Try.ntmps34
  go_wp2
  go_ret
  exact ⟨rfl, rfl⟩
end
end Go.Proofs.Ytbnkecmhmcligaa

