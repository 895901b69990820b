/-
  Contract of label.Split: a text, parted at its dots.
-/
import Derived.Test.YtbnkecmhmcligaaMQ37
import Derived.Test.YtbnkecmhmcligaaMQ18
namespace Go.Proofs.Ytbnkecmhmcligaa
set_option linter.unusedVariables false
set_option linter.unusedSimpArgs false
set_option maxRecDepth 20000
open Go.RowKit Go.Shelf

/-- How far a text is parted: where we are, where the part at hand begins, whether a stroke is ahead, the parts (from, to). -/
structure SpSt where
  at' : Nat
  start : Nat
  taken : Bool
  parts : List (Nat × Nat)
def spStep (t : SpSt) (c : UInt8) : SpSt :=
  if t.taken then ⟨t.at' + 1, t.start, false, t.parts⟩ else if c = 92 then ⟨t.at' + 1, t.start, true, t.parts⟩
  else if c = 46 then ⟨t.at' + 1, t.at' + 1, false, t.parts ++ [(t.start, t.at')]⟩ else ⟨t.at' + 1, t.start, false, t.parts⟩
def spRun (l : List UInt8) : SpSt := l.foldl spStep ⟨0, 0, false, []⟩
theorem spRun_snoc (l : List UInt8) (c : UInt8) : spRun (l ++ [c]) = spStep (spRun l) c := by simp [spRun]
theorem spRun_inv (l : List UInt8) : (spRun l).at' = l.length ∧ (spRun l).start ≤ l.length ∧ (spRun l).parts.length ≤ l.length := by
  suffices h : ∀ (l : List UInt8) (t : SpSt) (n : Nat), t.at' = n → t.start ≤ n → t.parts.length ≤ n → (l.foldl spStep t).at' = n + l.length ∧ (l.foldl spStep t).start ≤ n + l.length ∧ (l.foldl spStep t).parts.length ≤ n + l.length by
    have := h l ⟨0, 0, false, []⟩ 0 rfl (Nat.le_refl _) (Nat.le_refl _)
    unfold spRun; simp only [Nat.zero_add] at this; exact this
  intro l
  induction l with
  | nil => intro t n h1 h2 h3; simp [h1, h2, h3]
  | cons c l ih =>
    intro t n h1 h2 h3
    have := ih (spStep t c) (n + 1) (by unfold spStep; split <;> (try split) <;> (try split) <;> simp [h1]) (by unfold spStep; split <;> (try split) <;> (try split) <;> simp <;> omega) (by unfold spStep; split <;> (try split) <;> (try split) <;> simp <;> omega)
    simp only [List.foldl_cons, List.length_cons]
    obtain ⟨a, b, d⟩ := this
    exact ⟨by omega, by omega, by omega⟩
def piece (s : List UInt8) (p : Nat × Nat) : List UInt8 := (s.take p.2).drop p.1
def splitM (s : List UInt8) : List (List UInt8) × Int :=
  if (spRun s).taken then ([], 2) else ((spRun s).parts.map (piece s) ++ [s.drop (spRun s).start], 0)

theorem spStep_taken {t : SpSt} {c : UInt8} (h : t.taken = true) : spStep t c = ⟨t.at' + 1, t.start, false, t.parts⟩ := by simp [spStep, h]
theorem spStep_stroke {t : SpSt} {c : UInt8} (h : t.taken = false) (h2 : ((c.toNat : Int) == 92) = true) : spStep t c = ⟨t.at' + 1, t.start, true, t.parts⟩ := by
  have : c = 92 := u8_is (n := 92) (by omega) h2
  simp [spStep, h, this]
theorem spStep_dot {t : SpSt} {c : UInt8} (h : t.taken = false) (h3 : ((c.toNat : Int) == 46) = true) : spStep t c = ⟨t.at' + 1, t.at' + 1, false, t.parts ++ [(t.start, t.at')]⟩ := by
  have : c = 46 := u8_is (n := 46) (by omega) h3
  simp [spStep, h, this]
theorem spStep_other {t : SpSt} {c : UInt8} (h : t.taken = false) (h2 : ((c.toNat : Int) == 92) = false) (h3 : ((c.toNat : Int) == 46) = false) : spStep t c = ⟨t.at' + 1, t.start, false, t.parts⟩ := by
  have e1 : c ≠ 92 := u8_isnt (n := 92) (by omega) h2
  have e2 : c ≠ 46 := u8_isnt (n := 46) (by omega) h3
  simp [spStep, h, e1, e2]

/-- The parts that are made. -/
def spParts (s : ByteArray) (pre : List UInt8) : List (List UInt8) := (spRun pre).parts.map (piece s.data.toList)

/-- The boxes of a call of Split, and what they hold. -/
def SpG (s : ByteArray) (w : World) (parts : List (List UInt8)) (start at' : Int) (taken : Bool) (W : World) : Prop :=
  Boxed W w.heap.size 9 (.string s) ∧ GBox 9 27 strV (w.heap.size + 1) (w.heap.size + 6) parts W ∧ Boxed W (w.heap.size + 1 + 1) 3 (.int .i64 start) ∧
  Boxed W (w.heap.size + 1 + 1 + 1) 3 (.int .i64 at') ∧ Boxed W (w.heap.size + 1 + 1 + 1 + 1) 4 (.bool taken) ∧ Boxed W (w.heap.size + 1 + 1 + 1 + 1 + 1) 9 (.string s) ∧ Below w.heap.size w W
def SpInv (s : ByteArray) (w : World) (pre : List UInt8) (W : World) : Prop := SpG s w (spParts s pre) ((spRun pre).start : Int) (pre.length : Int) (spRun pre).taken W
/-- What a step of a round has done. -/
def SpTo (s : ByteArray) (w W : World) (parts : List (List UInt8)) (start at' : Int) (taken : Bool) (W' : World) : Prop :=
  KeepsOthers W W' ∧ KeepB (w.heap.size + 1 + 1 + 1 + 1 + 1) W W' ∧ SpG s w parts start at' taken W'
section
variable {s : ByteArray} {w W X : World} {parts : List (List UInt8)} {start at' : Int} {taken : Bool}
theorem SpTo.setTaken (h : SpTo s w W parts start at' taken X) (b : Bool) : SpTo s w W parts start at' b (X.setCell ⟨w.heap.size + 1 + 1 + 1 + 1, 0, none⟩ (.bool b)) := by
  obtain ⟨k1, k2, h0, h1, h2, h3, h4, h5, hB⟩ := h
  exact ⟨k1.trans (KeepsOthers.setCell _ _ _), k2.trans (KeepB.setCell _ _ (by omega)), h0.other (by omega) _, h1.setOther h4 (by decide) (by omega) _, h2.other (by omega) _, h3.other (by omega) _, h4.set _, h5.other (by omega) _, hB.trans ((Below.refl _ _).setCell (p := ⟨w.heap.size + 1 + 1 + 1 + 1, 0, none⟩) (by simp; omega) _)⟩
theorem SpTo.setAt (h : SpTo s w W parts start at' taken X) (n : Int) : SpTo s w W parts start n taken (X.setCell ⟨w.heap.size + 1 + 1 + 1, 0, none⟩ (.int .i64 n)) := by
  obtain ⟨k1, k2, h0, h1, h2, h3, h4, h5, hB⟩ := h
  exact ⟨k1.trans (KeepsOthers.setCell _ _ _), k2.trans (KeepB.setCell _ _ (by omega)), h0.other (by omega) _, h1.setOther h3 (by decide) (by omega) _, h2.other (by omega) _, h3.set _, h4.other (by omega) _, h5.other (by omega) _, hB.trans ((Below.refl _ _).setCell (p := ⟨w.heap.size + 1 + 1 + 1, 0, none⟩) (by simp; omega) _)⟩
theorem SpTo.setStart (h : SpTo s w W parts start at' taken X) (n : Int) : SpTo s w W parts n at' taken (X.setCell ⟨w.heap.size + 1 + 1, 0, none⟩ (.int .i64 n)) := by
  obtain ⟨k1, k2, h0, h1, h2, h3, h4, h5, hB⟩ := h
  exact ⟨k1.trans (KeepsOthers.setCell _ _ _), k2.trans (KeepB.setCell _ _ (by omega)), h0.other (by omega) _, h1.setOther h2 (by decide) (by omega) _, h2.set _, h3.other (by omega) _, h4.other (by omega) _, h5.other (by omega) _, hB.trans ((Below.refl _ _).setCell (p := ⟨w.heap.size + 1 + 1, 0, none⟩) (by simp; omega) _)⟩
theorem SpTo.box1 (h : SpTo s w W parts start at' taken X) {u : Value} (hu : Boxed X (w.heap.size + 1) 27 u) (ho : OwnG 9 strV X (w.heap.size + 6) u parts) {w1 : World} (hg : X.grownBy w1 u.ownBlock) : Boxed w1 (w.heap.size + 1) 27 u := by
  have := h.1; exact hu.kept hg (fun e => by have := ho.base_le _ e.symm; omega)
theorem SpTo.box2 (h : SpTo s w W parts start at' taken X) {u : Value} (ho : OwnG 9 strV X (w.heap.size + 6) u parts) {w1 : World} (hg : X.grownBy w1 u.ownBlock) : Boxed w1 (w.heap.size + 1 + 1) 3 (.int .i64 start) :=
  h.2.2.2.2.1.kept hg (fun e => by have := ho.base_le _ e.symm; omega)
theorem SpTo.box3 (h : SpTo s w W parts start at' taken X) {u : Value} (ho : OwnG 9 strV X (w.heap.size + 6) u parts) {w1 : World} (hg : X.grownBy w1 u.ownBlock) : Boxed w1 (w.heap.size + 1 + 1 + 1) 3 (.int .i64 at') :=
  h.2.2.2.2.2.1.kept hg (fun e => by have := ho.base_le _ e.symm; omega)
theorem SpTo.app (h : SpTo s w W parts start at' taken X) {u v' : Value} (hu : Boxed X (w.heap.size + 1) 27 u) (ho : OwnG 9 strV X (w.heap.size + 6) u parts) (hbase : w.heap.size + 6 ≤ X.heap.size) {w1 : World} {p2 : List (List UInt8)} (ho' : OwnG 9 strV w1 (w.heap.size + 6) v' p2) (hg : X.grownBy w1 u.ownBlock) :
    SpTo s w W p2 start at' taken (w1.setCell ⟨w.heap.size + 1, 0, none⟩ v') := by
  obtain ⟨k1, k2, h0, _, h2, h3, h4, h5, hB⟩ := h
  obtain ⟨_, g2, g3, g4, g5⟩ := gboxed_appends2 (n₀ := w.heap.size) (by decide) hu ho (by omega) (by omega) hbase ho' hg
  exact ⟨k1.trans g3, k2.trans (g5 _ (by omega) (by omega)), boxed_keep (g5 _ (by omega) (by omega)) h0, g2, boxed_keep (g5 _ (by omega) (by omega)) h2, boxed_keep (g5 _ (by omega) (by omega)) h3, boxed_keep (g5 _ (by omega) (by omega)) h4, boxed_keep (g5 _ (by omega) (by omega)) h5, hB.trans g4⟩
theorem SpTo.drew (h : SpTo s w W parts start at' taken X) : SpTo s w W parts start at' taken X.drew := by
  obtain ⟨k1, k2, h0, h1, h2, h3, h4, h5, hB⟩ := h
  exact ⟨k1.trans (KeepsOthers.drew _), k2, h0, h1, h2, h3, h4, h5, hB.drew⟩
theorem SpTo.fin {pre : List UInt8} {c : UInt8} {B : Nat} {p2 : List (List UInt8)} {st2 at2 : Int} {tk2 : Bool} (h : SpTo s w W p2 st2 at2 tk2 X) (e1 : spParts s (pre ++ [c]) = p2) (e2 : ((spRun (pre ++ [c])).start : Int) = st2) (e3 : ((pre ++ [c]).length : Int) = at2) (e4 : (spRun (pre ++ [c])).taken = tk2) :
    KeepsFrom B W X ∧ KeepB (w.heap.size + 1 + 1 + 1 + 1 + 1) W X ∧ SpInv s w (pre ++ [c]) X := by
  subst e1 e2 e3 e4; exact ⟨h.1.from _, h.2.1, h.2.2⟩
end

def SplitPost (s : ByteArray) (w : World) (e : Ending) (w' : World) : Prop :=
  ∃ v, e = .returned (.tuple #[v, .int .i64 (splitM s.data.toList).2]) ∧ OwnG 9 strV w' w.heap.size v (splitM s.data.toList).1 ∧ Below w.heap.size w w'

theorem split_fin {s : ByteArray} {w w' : World} {e : Ending} {v : Value} (l : List (List UInt8)) (er : Int) (h : splitM s.data.toList = (l, er)) (he : e = .returned (.tuple #[v, .int .i64 er])) (ho : OwnG 9 strV w' w.heap.size v l) (hw : Below w.heap.size w w') : SplitPost s w e w' := by
  unfold SplitPost; rw [h]; exact ⟨v, he, ho, hw⟩

section
attribute [local go_sem] Oper.semAt_some
end

end Go.Proofs.Ytbnkecmhmcligaa

/-
  Package name's iterators: labels (from the first label on), upward (from the root's side on). An element is an index of the name.
-/
namespace Go.Proofs.Ytbnkecmhmcligaa
set_option linter.unusedVariables false
set_option linter.unusedSimpArgs false
set_option maxRecDepth 20000
open Go.RowKit Go.Shelf

/-- The block of a slice's cells (of none, if it has none). -/
def rowOf : Value → Option Nat
  | .slice (some a) (_ + 1) _ => some a.block
  | _ => none
theorem rowOf_at {a : Addr} {n c k : Nat} (h : k < n) : rowOf (.slice (some a) n c) = some a.block := by
  cases n with
  | zero => omega
  | succ n => rfl
theorem StrsAt.row_lt {W : World} {v : Value} {xs : List (List UInt8)} (h : StrsAt W v xs) : ∀ g, rowOf v = some g → g < W.heap.size := by
  obtain ⟨a, c, rfl, hx⟩ := h
  intro g hg
  rcases hx with e | ⟨b, off, rfl, hb, _⟩
  · subst e; cases a <;> cases hg
  · cases xs with
    | nil => cases hg
    | cons x r => cases hg; exact hb
/-- What a round must keep: the box of the variable, the cells. -/
def KeepN (b : Nat) (v : Value) (W W' : World) : Prop := KeepB b W W' ∧ ∀ g, rowOf v = some g → KeepB g W W'
theorem KeepN.refl (b : Nat) (v : Value) (W : World) : KeepN b v W W := ⟨KeepB.refl _ _, fun _ _ => KeepB.refl _ _⟩
theorem KeepN.trans {b : Nat} {v : Value} {A B C : World} (h : KeepN b v A B) (k : KeepN b v B C) : KeepN b v A C := ⟨h.1.trans k.1, fun g e => (h.2 g e).trans (k.2 g e)⟩
/-- A slice of strings that lies below a mark. -/
def StrsIn (n₀ : Nat) (W : World) (v : Value) (xs : List (List UInt8)) : Prop :=
  ∃ a c, v = .slice a xs.length c ∧ (xs = [] ∨ ∃ b off, a = some ⟨b, off, none⟩ ∧ b < n₀ ∧ ∀ j (hj : j < xs.length), W.cell? ⟨b, off + j, none⟩ = some (strV xs[j]))
theorem StrsAt.in {W : World} {v : Value} {xs : List (List UInt8)} (h : StrsAt W v xs) : StrsIn W.heap.size W v xs := h

theorem KeepN.setCell {b c : Nat} {v : Value} (W : World) (u : Value) (hb : b ≠ c) (hg : ∀ g, rowOf v = some g → g ≠ c) : KeepN b v W (W.setCell ⟨c, 0, none⟩ u) := ⟨KeepB.setCell _ _ hb, fun g e => KeepB.setCell _ _ (hg g e)⟩
theorem KeepN.alloc {b : Nat} {v : Value} (W : World) (o : Obj) (hb : b < W.heap.size) (hg : ∀ g, rowOf v = some g → g < W.heap.size) : KeepN b v W (W.alloc o) := ⟨KeepB.alloc _ _ hb, fun g e => KeepB.alloc _ _ (hg g e)⟩
theorem KeepN.below {b n : Nat} {v : Value} {W W' : World} (h : Below n W W') (hb : b < n) (hg : ∀ g, rowOf v = some g → g < n) : KeepN b v W W' := ⟨h.block b hb, fun g e => h.block g (hg g e)⟩
theorem keepN_t {b : Nat} {v : Value} {A B C : World} (h : KeepN b v A B) (k : KeepN b v B C) : KeepN b v A C := h.trans k
theorem keepN_b {b : Nat} {v : Value} {w : World} (hb : b < w.heap.size) (hg : ∀ g, rowOf v = some g → g < w.heap.size) (W : World) (l : Nat) (o o' : Obj) (hl : w.heap.size ≤ l) (h : W.heap[l]? = some o) (h1 : o.isCells = false) (h2 : o.isWalk = false) : KeepN b v W (W.putObj l o') :=
  ⟨keepB_b hb W l o o' hl h h1 h2, fun g e => keepB_b (hg g e) W l o o' hl h h1 h2⟩
theorem KeepN.strs {b : Nat} {v : Value} {xs : List (List UInt8)} {W W' : World} (h : KeepN b v W W') (hA : StrsAt W v xs) (hs : W.heap.size ≤ W'.heap.size) : StrsAt W' v xs := by
  obtain ⟨a, c, rfl, hx⟩ := hA
  refine ⟨a, c, rfl, ?_⟩
  rcases hx with e | ⟨g, off, rfl, hg, hc⟩
  · exact .inl e
  · exact .inr ⟨g, off, rfl, Nat.lt_of_lt_of_le hg hs, fun j hj => ((h.2 g (rowOf_at hj)).cell).trans (hc j hj)⟩

def idxV (xs : List (List UInt8)) (j : Fin xs.length) : Array Value := #[.int .i64 (j.val : Int), strV xs[j]]

section
attribute [local go_sem] Oper.semAt_some

theorem finRange_take_succ {n k : Nat} (h : k < n) : (List.finRange n).take (k + 1) = (List.finRange n).take k ++ [⟨k, h⟩] := by
  rw [List.take_succ_eq_append_getElem (by simpa using h)]; simp

set_option maxRecDepth 100000 in
set_option maxHeartbeats 1000000 in
theorem labels1_in (n : Nat) (hn : 1 ≤ n) (l b : Nat) (v : Value) (xs : List (List UInt8)) (hs : xs.length ≤ maxLen) (J Jx : List (Fin xs.length) → World → Prop)
    (hY : ∀ pre x W, J pre W → pre.length < xs.length → YieldAt Fence.wide (n - 1) Try.prog l (idxV xs x) W fun e W' =>
      (e = .returned (.bool true) ∧ J (pre ++ [x]) W' ∧ KeepN b v W W') ∨ (e = .returned (.bool false) ∧ Jx (pre ++ [x]) W'))
    (W : World) (hc : W.cell? ⟨b, 0, none⟩ = some v) (hA : ∃ a c, v = .slice a xs.length c ∧ (xs = [] ∨ ∃ g off, a = some ⟨g, off, none⟩ ∧ ∀ j (hj : j < xs.length), W.cell? ⟨g, off + j, none⟩ = some (strV xs[j]))) (h0 : J [] W) :
    CallsIn Fence.wide n Try.prog 48 #[.func (.yield l) #[] #[], .pointer (some ⟨b, 0, none⟩)] W fun e W' => (∃ v, e = .returned v) ∧
      ((∃ ys, ys = List.finRange xs.length ∧ J ys W') ∨ (∃ pre, pre <+: List.finRange xs.length ∧ Jx pre W')) := by
  unfold maxLen at hs
  obtain ⟨a, c, rfl, hx⟩ := hA
  refine callsIn_of_wp Try.func48 rfl trivial ?_ rfl
  simp only [Try.ntmps48, List.size_toArray, List.length_cons, List.length_nil, Nat.reduceAdd, Nat.reduceSub, Array.replicate_succ, Array.replicate_zero, List.push_toArray, List.append_toArray, List.nil_append, List.cons_append]
  gi_wp2
  gi_loopw [7] (fun i wr => ∃ k : Nat, k ≤ xs.length ∧ i = .int .i64 k ∧ J ((List.finRange xs.length).take k) wr ∧ KeepN b (.slice a xs.length c) W wr)
    (fun i _ => xs.length - (intOf i).toNat)
  case atStart => exact ⟨0, Nat.zero_le _, rfl, h0, KeepN.refl _ _ _⟩
  case round =>
    obtain ⟨k, hk, rfl, hJs, hnx⟩ := hrel
    by_cases hlt : k < xs.length
    · rcases hx with e | ⟨g, off, rfl, hcells⟩
      · subst e; simp at hlt
      have hcell : wr.cell? ⟨g, off + k, none⟩ = some (strV xs[k]) := ((hnx.2 g (rowOf_at hlt)).cell).trans (hcells k hlt)
      obtain ⟨fn, tmps, assign, body, hy, hR⟩ := hY _ ⟨k, hlt⟩ wr hJs (by simp; omega)
      have hcb : wr.cell? ⟨b, 0, none⟩ = some (.slice (some ⟨g, off, none⟩) xs.length c) := hnx.1.cell.trans hc
      unfold idxV at hy
      generalize hsv : strV xs[k] = sv at *
      dsimp only at hy
      clear hcells hsv
      gi_wp2
      refine hR.mono ?_
      rintro e W3 (⟨rfl, hJ3, hk3⟩ | ⟨rfl, hJx3⟩)
      · gi_wp2
        go_roundw
        case rel => exact ⟨k + 1, by omega, by simp, by rw [finRange_take_succ hlt]; exact hJ3, hnx.trans hk3⟩
        case measure => simp [intOf]; omega
      · gi_wp2
        refine bodyPost_ret (results_none rfl _ _ _) rfl ?_
        exact ⟨⟨_, rfl⟩, .inr ⟨_, by rw [← finRange_take_succ hlt]; exact List.take_prefix _ _, hJx3⟩⟩
    · obtain rfl : k = xs.length := by omega
      gi_wp2
      go_end0
      exact ⟨⟨_, rfl⟩, .inl ⟨_, by rw [List.take_of_length_le (by simp)], hJs⟩⟩

theorem finRev_succ {n k : Nat} (h : k < n) : (List.finRange n).reverse.take (n - k) = (List.finRange n).reverse.take (n - (k + 1)) ++ [⟨k, h⟩] := by
  rw [show n - k = n - (k + 1) + 1 by omega, List.take_succ_eq_append_getElem (by simp; omega)]
  congr 1
  simp only [List.getElem_reverse, List.length_finRange, List.getElem_finRange, List.cons.injEq, and_true]
  apply Fin.ext; simp; omega

theorem labels_stops (n : Nat) (hn : 1 ≤ n) (b : Nat) (v : Value) (xs : List (List UInt8)) (hs : xs.length ≤ maxLen) (w : World) (hb : b < w.heap.size)
    (hc : w.cell? ⟨b, 0, none⟩ = some v) (hA : StrsAt w v xs) :
    SeqStopsK Fence.wide n Try.prog 48 #[.pointer (some ⟨b, 0, none⟩)] (idxV xs) (KeepN b v) (fun ys => ys = List.finRange xs.length) (fun pre => pre <+: List.finRange xs.length) xs.length w := fun l J Jx W hW _ _ hY h0 => by
  refine labels1_in n hn l b v xs hs J Jx hY W ((hW.cell (p := ⟨b, 0, none⟩) hb).trans hc) ?_ h0
  obtain ⟨a, c, e, h⟩ := hA
  exact ⟨a, c, e, h.imp id fun ⟨g, off, ea, hg, hcs⟩ => ⟨g, off, ea, fun j hj => (hW.cell (p := ⟨g, off + j, none⟩) hg).trans (hcs j hj)⟩⟩
set_option maxHeartbeats 400000 in
theorem name_labels (a : Option Addr) (n c : Nat) (w : World) :
    Calls Try.prog 39 #[.slice a n c] w fun e w' => e = .returned (.func (.func 48) #[] #[.pointer (some ⟨w.heap.size, 0, none⟩)]) ∧ w' = w.alloc (.cells #[.slice a n c] 28) := by
  go_enter Try.func39, Try.ntmps39
  go_wp2
  go_ret
  exact ⟨rfl, rfl⟩
end
end Go.Proofs.Ytbnkecmhmcligaa

