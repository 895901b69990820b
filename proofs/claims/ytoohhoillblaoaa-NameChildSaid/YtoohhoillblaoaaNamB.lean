/-
  Contracts of name.Len and name.Check.
-/
import Derived.Test.YtoohhoillblaoaaNamA
import Derived.Test.YtoohhoillblaoaaNamM
namespace Go.Proofs.Ytoohhoillblaoaa
open Go.RowKit Go.Shelf

/-- A name of a size that a machine bears. -/
def NmOK (xs : Nm) : Prop := xs.length ≤ 1048576 ∧ ∀ x ∈ xs, x.length ≤ 1048576
theorem NmOK.get {xs : Nm} (h : NmOK xs) (j : Nat) (hj : j < xs.length) : xs[j].length ≤ 1048576 := h.2 _ (List.getElem_mem hj)
theorem map_fin (xs : Nm) : (List.finRange xs.length).map (fun j => xs[j]) = xs := by
  apply List.ext_getElem (by simp)
  intro j h1 h2; simp
def sumN (xs : Nm) (pre : List (Fin xs.length)) : Nat := lenN (pre.map fun j => xs[j])
theorem sumN_le {xs : Nm} (h : NmOK xs) (pre : List (Fin xs.length)) : sumN xs pre ≤ 1 + pre.length * 1048577 := by
  unfold sumN
  induction pre with
  | nil => simp [lenN]
  | cons j r ih =>
    have := h.get j.val j.isLt
    simp only [List.map_cons, lenN_cons, List.length_cons, Fin.getElem_fin] at ih ⊢
    omega
theorem sumN_snoc (xs : Nm) (pre : List (Fin xs.length)) (j : Fin xs.length) : sumN xs (pre ++ [j]) = sumN xs pre + 1 + xs[j].length := by
  unfold sumN; rw [List.map_append]; exact lenN_snoc _ _

section
attribute [local go_sem] Oper.semAt_some
set_option maxRecDepth 100000 in
set_option maxHeartbeats 2000000 in
theorem name_Len (v : Value) (xs : Nm) (w : World) (hA : StrsAt w v xs) (hk : NmOK xs) :
    Calls Try.prog 17 #[v] w fun e w' => e = .returned (.int .i64 (lenN xs : Int)) ∧ Below w.heap.size w w' := by
  obtain ⟨a, c, rfl, hx⟩ := id hA
  refine (callsIn_wide (n := 5)).1 ?_
  refine callsIn_of_wp_marks Try.func17 rfl trivial ?_ rfl
  simp only [Try.ntmps17, List.size_toArray, List.length_cons, List.length_nil, Nat.reduceAdd, Nat.reduceSub, Array.replicate_succ, Array.replicate_zero, List.push_toArray, List.append_toArray, List.nil_append, List.cons_append]
  gi_wp2_with (refine ⟨trivial, ?_⟩; gi_at_call 42; refine (callsIn_wide.2 (name_labels _ _ _ _)).mono ?_; rintro e w' ⟨rfl, rfl⟩)
  obtain ⟨W0, hW0⟩ : ∃ W0, ((w.alloc (.cells #[.int .i64 1] 3)).alloc (.cells #[.slice a xs.length c] 23)) = W0 := ⟨_, rfl⟩
  have bI : Boxed W0 w.heap.size 3 (.int .i64 1) := by rw [← hW0]; exact (Boxed.new w _ _).alloc _
  have bV : Boxed W0 (w.heap.size + 1) 23 (.slice a xs.length c) := by
    have := Boxed.new (w.alloc (.cells #[.int .i64 1] 3)) 23 (.slice a xs.length c)
    rw [World.size_alloc] at this
    rw [← hW0]; exact this
  have hsz : W0.heap.size = w.heap.size + 2 := by rw [← hW0]; simp
  have hB0 : Below w.heap.size w W0 := by rw [← hW0]; exact ((Below.refl _ w).alloc (Nat.le_refl _) _).alloc (by simp) _
  have hrow := hA.row_lt
  rw [hW0]
  have HZ := Lib.hid hsz; clear hsz hW0
  refine wpIn_rangeFunc_ownG rfl (by omega) (gf := 59) (lb := #[.pointer (some ⟨w.heap.size + 1, 0, none⟩)]) rfl trivial (enters_of Try.func59 (by kernel_rfl) rfl)
    (labels_stops _ (by omega) (w.heap.size + 1) (.slice a xs.length c) xs (by have := hk.1; unfold maxLen; omega) W0 (by rw [HZ.out]; omega) bV.cell (hA.below hB0)) keepN_t (keepN_b (by rw [HZ.out]; omega) (fun g e => by have := hrow g e; rw [HZ.out]; omega)) (Below.refl _ _) (fun _ => rfl)
    (fun pre W => Boxed W w.heap.size 3 (.int .i64 (sumN xs pre : Int)) ∧ Below w.heap.size w W)
    (fun _ _ _ => False)
    (OwnFrom.and (Own.from (boxed_own _ _ _) _) (ownFrom_below (Nat.le_refl _) (by rw [HZ.out]; omega)))
    (fun _ _ _ _ _ hs _ _ => hs)
    ⟨bI, hB0⟩
    (fun j => { tmps := #[.slice a xs.length c, undef, .int .i64 0, .pointer (some ⟨w.heap.size, 0, none⟩), undef, .string ⟨xs[j].toArray⟩, .slice a xs.length c, .func (.func 59) #[] #[.pointer (some ⟨w.heap.size + 1, 0, none⟩)], .int .i64 (j.val : Int), .string ⟨xs[j].toArray⟩, undef, undef, undef, undef, undef, undef], defers := [] }) ?assign ?body ?done ?stop
  case assign =>
    intro l x W K hK
    unfold idxV strV
    gi_wp2
    exact hK
  case body =>
    rintro l pre x W ⟨hI, hB⟩ hlt
    have c0 := hI.cell; have f0 := hI.frozen
    have hsn := sumN_snoc xs pre x
    have hx1 : xs[x].length ≤ 1048576 := hk.get x.val x.isLt
    have hsum := sumN_le hk pre
    have hl1 := hk.1
    have hmz : (⟨xs[x].toArray⟩ : ByteArray).size = xs[x].length := mk_size _
    generalize (⟨xs[x].toArray⟩ : ByteArray) = sx at *
    rw [← hmz] at hsn hx1
    have HS := Lib.hid hsn; clear hsn hmz
    generalize hq : sumN xs pre = q at *
    have hq2 : q ≤ 1099512676353 := by omega
    clear hsum hq
    gi_wp2
    exact ⟨(KeepsOthers.setCell _ _ _).from _, KeepN.setCell _ _ (by omega) (fun g e => by have := hrow g e; omega), by rw [HS.out]; have := hI.set (.int .i64 ((q : Int) + (1 + (sx.size : Int)))); rw [show ((q + 1 + sx.size : Nat) : Int) = (q : Int) + (1 + (sx.size : Int)) by omega]; exact this, hB.setCell (p := ⟨w.heap.size, 0, none⟩) (Nat.le_refl _) _⟩
  case done =>
    rintro D ys W hD rfl ⟨hI, hB⟩ hK
    have c0 := hI.cell
    have hall : sumN xs (List.finRange xs.length) = lenN xs := by unfold sumN; rw [map_fin]
    rw [hall] at c0
    gi_wp2
    refine ⟨by simp, .inl ⟨_, _, rfl, run_takeDeferred hK, ?_⟩⟩
    exact ⟨_, results_tmp rfl _ _ _, rfl, hB.trans (belowK_b (w := w) (Nat.le_refl _) W D _ _ (by have := HZ.out; omega) hK rfl rfl)⟩
  case stop =>
    rintro D c pre W _ _ h _
    exact h.elim
end
end Go.Proofs.Ytoohhoillblaoaa
