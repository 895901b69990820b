/-
  Contract of name.Check.
-/
import Derived.Test.YtoohhoillblaoaaRes
namespace Go.Proofs.Ytoohhoillblaoaa
open Go.RowKit Go.Shelf

/-- The labels of the indexes. -/
def atN (xs : Nm) (pre : List (Fin xs.length)) : Nm := pre.map fun j => xs[j]
theorem atN_snoc (xs : Nm) (pre : List (Fin xs.length)) (j : Fin xs.length) : atN xs (pre ++ [j]) = atN xs pre ++ [xs[j]] := by simp [atN]
theorem atN_all (xs : Nm) : atN xs (List.finRange xs.length) = xs := map_fin xs
theorem atN_prefix {xs : Nm} {pre : List (Fin xs.length)} (h : pre <+: List.finRange xs.length) : atN xs pre <+: xs := by
  have := h.map fun j => xs[j]; rwa [map_fin] at this

section
attribute [local go_sem] Oper.semAt_some
set_option maxRecDepth 100000 in
set_option maxHeartbeats 2000000 in
theorem name_Check (v : Value) (xs : Nm) (w : World) (hA : StrsAt w v xs) (hk : NmOK xs) :
    Calls Try.prog 15 #[v] w fun e w' => e = .returned (.int .i64 (checkN xs)) ∧ Below w.heap.size w w' := by
  obtain ⟨a, c, rfl, hx⟩ := id hA
  refine (callsIn_wide (n := 5)).1 ?_
  refine callsIn_of_wp_marks Try.func15 rfl trivial ?_ rfl
  simp only [Try.ntmps15, List.size_toArray, List.length_cons, List.length_nil, Nat.reduceAdd, Nat.reduceSub, Array.replicate_succ, Array.replicate_zero, List.push_toArray, List.append_toArray, List.nil_append, List.cons_append]
  gi_wp2_with (refine ⟨trivial, ?_⟩; gi_at_call 42; refine (callsIn_wide.2 (name_labels _ _ _ _)).mono ?_; rintro e w' ⟨rfl, rfl⟩)
  obtain ⟨W0, hW0⟩ : ∃ W0, ((w.alloc (.cells #[.int .i64 0] 28)).alloc (.cells #[.slice a xs.length c] 23)) = W0 := ⟨_, rfl⟩
  have bI : Boxed W0 w.heap.size 28 (.int .i64 0) := by rw [← hW0]; exact (Boxed.new w _ _).alloc _
  have bV : Boxed W0 (w.heap.size + 1) 23 (.slice a xs.length c) := by
    have := Boxed.new (w.alloc (.cells #[.int .i64 0] 28)) 23 (.slice a xs.length c)
    rw [World.size_alloc] at this
    rw [← hW0]; exact this
  have hsz : W0.heap.size = w.heap.size + 2 := by rw [← hW0]; simp
  have hB0 : Below w.heap.size w W0 := by rw [← hW0]; exact ((Below.refl _ w).alloc (Nat.le_refl _) _).alloc (by simp) _
  have hrow := hA.row_lt
  rw [hW0]
  have HZ := Lib.hid hsz; clear hsz hW0
  refine wpIn_rangeFunc_ownG rfl (by omega) (gf := 59) (lb := #[.pointer (some ⟨w.heap.size + 1, 0, none⟩)]) rfl trivial (enters_of Try.func59 (by kernel_rfl) rfl)
    (labels_stops _ (by omega) (w.heap.size + 1) (.slice a xs.length c) xs (by have := hk.1; unfold maxLen; omega) W0 (by rw [HZ.out]; omega) bV.cell (hA.below hB0)) keepN_t (keepN_b (by rw [HZ.out]; omega) (fun g e => by have := hrow g e; rw [HZ.out]; omega)) (Below.refl _ _) (fun _ => rfl)
    (fun pre W => Boxed W w.heap.size 28 (.int .i64 0) ∧ Below w.heap.size w W ∧ checkL (atN xs pre) = 0)
    (fun k pre W => k = .ret ∧ Boxed W w.heap.size 28 (.int .i64 (checkL (atN xs pre))) ∧ Below w.heap.size w W ∧ checkL (atN xs pre) ≠ 0)
    (OwnFrom.and (Own.from (boxed_own _ _ _) _) (OwnFrom.and (ownFrom_below (Nat.le_refl _) (by rw [HZ.out]; omega)) (ownFrom_pure _ _)))
    (fun _ => OwnFrom.and (ownFrom_pure _ _) (OwnFrom.and (Own.from (boxed_own _ _ _) _) (OwnFrom.and (ownFrom_below (Nat.le_refl _) (by rw [HZ.out]; omega)) (ownFrom_pure _ _))))
    ⟨bI, hB0, rfl⟩
    (fun j => { tmps := #[.slice a xs.length c, undef, .pointer (some ⟨w.heap.size, 0, none⟩), undef, .string ⟨xs[j].toArray⟩, undef, .slice a xs.length c, .func (.func 59) #[] #[.pointer (some ⟨w.heap.size + 1, 0, none⟩)], .int .i64 (j.val : Int), .string ⟨xs[j].toArray⟩, undef, undef, undef, undef, undef, undef, undef, undef], defers := [] }) ?assign ?body ?done ?stop
  case assign =>
    intro l x W K hK
    unfold idxV strV
    gi_wp2
    exact hK
  case body =>
    rintro l pre x W ⟨hI, hB, hC⟩ hlt
    have c0 := hI.cell; have f0 := hI.frozen
    have hx1 : xs[x].length ≤ 1048576 := hk.get x.val x.isLt
    have hsn : checkL (atN xs (pre ++ [x])) = checkLabelM xs[x] := by rw [atN_snoc, checkL_snoc, if_pos hC]
    obtain ⟨sx, hsx, hsz, hsv⟩ := str_of xs[x]
    have hCk := fun W => label_Check sx W (by unfold maxLen; omega)
    rw [hsx] at hCk
    rw [show (⟨xs[x].toArray⟩ : ByteArray) = sx from by unfold strV at hsv; cases hsv; rfl]
    have HS := Lib.hid hsn
    clear hsx hsz hsv hsn hx1
    generalize hq : checkLabelM xs[x] = q at *
    by_cases hq0 : (q != 0) = true
    · have hn : q ≠ 0 := by simpa using hq0
      have HN := Lib.hid hn; clear hn hq
      gi_wp2_with (refine ⟨trivial, ?_⟩; gi_at_call 44; refine (CallsIn.inRound l (callsIn_wide.2 (hCk _))).mono ?_; rintro e w' ⟨rfl, rfl⟩)
      exact ⟨(KeepsOthers.setCell _ _ _).from _, rfl, by rw [HS.out]; exact hI.set _, hB.setCell (p := ⟨w.heap.size, 0, none⟩) (Nat.le_refl _) _, by rw [HS.out]; exact HN.out⟩
    · have hn : (q != 0) = false := by simpa using hq0
      have HN := Lib.hid hn
      clear hq0 hq
      gi_wp2_with (refine ⟨trivial, ?_⟩; gi_at_call 44; refine (CallsIn.inRound l (callsIn_wide.2 (hCk _))).mono ?_; rintro e w' ⟨rfl, rfl⟩)
      exact ⟨(KeepsOthers.refl _).from _, KeepN.refl _ _ _, hI, hB, by rw [HS.out]; simpa using HN.out⟩
  case done =>
    rintro D ys W hD rfl ⟨hI, hB, hC⟩ hK
    rw [atN_all] at hC
    have c0 := hI.cell
    have HC := Lib.hid hC; clear hC
    have hL := name_Len (.slice a xs.length c) xs W (hA.below hB) hk
    have hDn : w.heap.size ≠ D := by have := HZ.out; omega
    have hd : checkN xs = if 255 < (lenN xs : Int) then 3 else 0 := by
      unfold checkN; rw [if_pos HC.out]
      by_cases h : 255 < lenN xs
      · rw [if_pos h, if_pos (by omega)]
      · rw [if_neg h, if_neg (by omega)]
    have HD := Lib.hid hd; clear hd
    generalize hq : lenN xs = q at *
    clear hq
    gi_wp2_with (refine ⟨trivial, ?_⟩; gi_at_call 17; refine (callsIn_wide.2 hL).mono ?_; rintro e w2 ⟨rfl, hb2⟩; have hI2 : Boxed w2 w.heap.size 28 (.int .i64 0) := (hb2.block w.heap.size hI.lt).trans hI; have c2 := hI2.cell; have f2 := hI2.frozen; have hK2 := heap_below hK hb2)
    · refine ⟨by simp, .inl ⟨_, _, rfl, run_takeDeferred (heap_setOther hK2 hDn.symm _), ?_⟩⟩
      refine ⟨_, results_cell rfl Try.underlying28 _ _ rfl (out_cell (hI2.set _) hDn _), ?_, ?_⟩
      · rw [HD.out, if_pos (by assumption)]
      · exact below_putO ((hB.trans (hb2.mono hB.size)).setCell (p := ⟨w.heap.size, 0, none⟩) (Nat.le_refl _) _) (by have := HZ.out; omega) (Nat.le_refl _)
    · refine ⟨by simp, .inl ⟨_, _, rfl, run_takeDeferred (heap_setOther hK2 hDn.symm _), ?_⟩⟩
      refine ⟨_, results_cell rfl Try.underlying28 _ _ rfl (out_cell (hI2.set _) hDn _), ?_, ?_⟩
      · rw [HD.out, if_neg (by omega)]
      · exact below_putO ((hB.trans (hb2.mono hB.size)).setCell (p := ⟨w.heap.size, 0, none⟩) (Nat.le_refl _) _) (by have := HZ.out; omega) (Nat.le_refl _)
  case stop =>
    rintro D c pre W hD hp ⟨rfl, hI, hB, hC⟩ hK
    have hS := checkN_of_stop (atN_prefix hp) hC
    have hDn : w.heap.size ≠ D := by have := HZ.out; omega
    gi_wp2
    refine ⟨by simp, .inl ⟨_, _, rfl, run_takeDeferred hK, ?_⟩⟩
    refine ⟨_, results_cell rfl Try.underlying28 _ _ rfl (out_cell hI hDn _), ?_, ?_⟩
    · rw [hS]
    · exact below_putO hB (by have := HZ.out; omega) (Nat.le_refl _)
end
end Go.Proofs.Ytoohhoillblaoaa
