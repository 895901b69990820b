/-
  Package rtype: All.
-/
import Derived.Test.YtoohhoillblaoaaDoorTyI
import Derived.Test.YtoohhoillblaoaaDoorOwn2
namespace Go.Proofs.YtoohhoillblaoaaDoor
open Go.RowKit Go.Shelf

theorem elemInt : ElemT 3 30 8 := ⟨Tryd.underlying30, _, _, rfl, rfl, rfl, rfl, rfl⟩
def allTs : List Int := [1, 2, 5, 6, 12, 15, 16, 28, 39]
theorem allTs_eq : (List.finRange 9).map (fun j => typeT j.val) = allTs := by decide
theorem allTs_sorted : allTs.mergeSort (fun x y => decide (x ≤ y)) = allTs := List.mergeSort_of_pairwise (by decide)
def AllPost (w : World) (e : Ending) (w' : World) : Prop := ∃ g c, e = .returned (.slice (some ⟨g, 0, none⟩) 9 c) ∧ TRow g w' ∧ Below w.heap.size w w'

section
attribute [local go_sem] Oper.semAt_some
set_option maxRecDepth 100000 in
set_option maxHeartbeats 4000000 in
theorem rtype_All (w : World) : Calls Tryd.prog 11 #[] w (AllPost w) := by
  refine (callsIn_wide (n := 5)).1 ?_
  refine callsIn_of_wp_marks Tryd.func11 rfl trivial ?_ rfl
  simp only [Tryd.ntmps11, List.size_toArray, List.length_nil, Nat.reduceSub, Array.replicate_succ, Array.replicate_zero, List.push_toArray, List.append_toArray, List.nil_append, List.cons_append]
  gi_wp2_with (first | (refine ⟨trivial, ?_⟩; gi_at_call 16; refine (callsIn_wide.2 (rtype_names2 _)).mono ?_; rintro e w1 ⟨g, rfl, hN, hb1, hgb⟩) | (refine ⟨trivial, ?_⟩; gi_at_call 23; refine (callsIn_wide.2 (table_all _ _)).mono ?_; rintro e w' ⟨rfl, rfl⟩))
  have bO0 := Boxed.new w 30 (.slice none 0 0)
  have bO1 : Boxed w1 w.heap.size 30 (.slice none 0 0) := (hb1.block w.heap.size (by simp)).trans bO0
  obtain ⟨W0, hW0⟩ : ∃ W0, w1.alloc (.cells #[.slice (some ⟨g, 0, none⟩) 9 9] 42) = W0 := ⟨_, rfl⟩
  have bO : Boxed W0 w.heap.size 30 (.slice none 0 0) := by rw [← hW0]; exact bO1.alloc _
  have bT : Boxed W0 w1.heap.size 42 (.slice (some ⟨g, 0, none⟩) 9 9) := by rw [← hW0]; exact Boxed.new _ _ _
  have hN0 : NRow g W0 := by rw [← hW0]; exact hN.below ((Below.refl _ _).alloc (Nat.le_refl _) _)
  have hB1 : Below w.heap.size w w1 := ((Below.refl _ w).alloc (Nat.le_refl _) _).trans (hb1.mono (by simp))
  have hB0 : Below w.heap.size w W0 := by rw [← hW0]; exact hB1.alloc hB1.size _
  have hwlt : w.heap.size < w1.heap.size := by have := hb1.size; simp at this; omega
  have hsz : W0.heap.size = w1.heap.size + 1 := by rw [← hW0]; simp
  have hgl := hN.1
  have hng : g ≠ w.heap.size := by simp at hgb; omega
  rw [hW0]
  have HZ := Lib.hid hsz; clear hsz hW0
  refine wpIn_rangeFunc_ownG rfl (by omega) (gf := 29) (lb := #[.pointer (some ⟨w1.heap.size, 0, none⟩)]) rfl trivial (enters_of Tryd.func29 (by kernel_rfl) rfl)
    (all_stops _ (by omega) w1.heap.size g W0 (by rw [HZ.out]; omega) bT.cell hN0) keepT_t (keepT_b (by rw [HZ.out]; omega) hN0.1) (Below.refl _ _) (fun _ => rfl)
    (fun pre W => GBox 3 30 (Value.int .i64) w.heap.size W0.heap.size (List.map (fun j : Fin 9 => typeT j.val) pre) W ∧ Below w.heap.size w W ∧ W0.heap.size ≤ W.heap.size)
    (fun _ _ _ => False)
    (OwnFrom.and (Own.from (gBox_own w.heap.size W0.heap.size (fun pre : List (Fin 9) => List.map (fun j : Fin 9 => typeT j.val) pre)) _) (OwnFrom.and (ownFrom_below (Nat.le_refl _) (by rw [HZ.out]; omega)) (fun _ _ _ _ hs hg _ => Nat.le_trans hs hg.size)))
    (fun _ _ _ _ _ hs _ _ => hs)
    ⟨⟨_, bO, OwnG.nil _ _⟩, hB0, Nat.le_refl _⟩
    (fun j => { tmps := #[.slice none 0 0, .pointer (some ⟨w.heap.size, 0, none⟩), .int .i64 (typeT j.val), .agg #[.slice (some ⟨g, 0, none⟩) 9 9], .func (.func 29) #[] #[.pointer (some ⟨w1.heap.size, 0, none⟩)], .int .i64 (typeT j.val), strV (typeS j.val), undef, undef, undef, undef, undef, undef, undef], defers := [] }) ?assign ?body ?done ?stop
  case assign =>
    intro l x W K hK
    unfold rowV strV
    unfold strV at hK
    gi_wp2
    exact hK
  case body =>
    rintro l pre x W ⟨⟨u, hv, hown⟩, hB, hW0⟩ hlt
    have hc := hv.cell; have hf := hv.frozen
    have hple : (pre.map fun j : Fin 9 => typeT j.val).length = pre.length := by simp
    have hsn : ((pre ++ [x]).map fun j : Fin 9 => typeT j.val) = (pre.map fun j : Fin 9 => typeT j.val) ++ [typeT x.val] := by simp
    have HSN := Lib.hid hsn; have HP := Lib.hid hple
    clear hsn hple
    generalize (pre.map fun j : Fin 9 => typeT j.val) = fs at *
    generalize typeT x.val = tx at *
    generalize strV (typeS x.val) = sx at *
    obtain ⟨ua, uc, rfl⟩ := hown.shape
    gi_wp2_with (gi_at_builtin; refine wplIn_append_g W rfl (.tmp 7) (.tmp 9) elemInt rfl (fun _ => rfl) W0.heap.size _ fs rfl hown [.int .i64 tx] [tx] rfl 1 1 rfl rfl hW0 (by have := HP.out; unfold maxLen; simp; omega) (by have := HP.out; simp; omega) ?_; intro v' w1' hown' hg'; obtain ⟨a', n', c', rfl⟩ : ∃ a n c, v' = .slice a n c := (by obtain ⟨a, c, e⟩ := hown'.shape; exact ⟨_, _, _, e⟩); obtain ⟨hv1, ho2, hk2, hbb2, hs2⟩ := gboxed_appends2 (by decide) hv hown (by rw [HZ.out]; omega) (Nat.le_refl _) hW0 hown' hg'; have hc1 := hv1.cell; have hf1 := hv1.frozen)
    exact ⟨hk2.from _, ⟨hs2 w1.heap.size (by rw [HZ.out]; omega) (by omega), hs2 g (by rw [HZ.out]; omega) hng⟩, by rw [HSN.out]; exact ho2, hB.trans hbb2, Nat.le_trans hW0 hbb2.size⟩
  case done =>
    rintro D ys W hD rfl ⟨⟨u, hv, hown⟩, hB, hW0⟩ hK
    rw [allTs_eq] at hown
    obtain ⟨ua, uc, rfl⟩ := hown.shape
    obtain ⟨gq, rfl, hgq, hglt, hcell⟩ := hown.cells (by decide)
    have hfr := hown.cell_at
    have hDg : gq ≠ D := fun e => hown.ne_of hK rfl (by rw [e]; rfl)
    have hH : Sort.Holds (Value.int .i64) W gq 0 allTs.toArray := by
      intro j hj
      have hj2 : j < allTs.length := by simpa using hj
      obtain ⟨h1, h2⟩ := hfr j hj2
      rw [Nat.zero_add]
      refine ⟨?_, h2⟩
      rw [h1, getElem!_pos allTs.toArray j hj]; rfl
    have hS : Calls Tryd.prog 24 #[.slice (some ⟨gq, 0, none⟩) 9 uc] W fun e w' => e = .returned (.tuple #[]) ∧ Below W.heap.size W w' := by
      refine (Tryd.slices_Sort_int gq 0 uc allTs W hH hglt (by decide)).mono ?_
      rintro e w' ⟨he, n, os, rfl⟩
      rw [allTs_sorted]
      refine ⟨he, ?_⟩
      rw [Sort.putRow_self _ _ _ _ _ (show Sort.Holds (Value.int .i64) (Sort.ahead W n) gq 0 allTs.toArray from hH)]
      exact Lib.below_grow _ W (Nat.le_refl _) n os
    have hT : TRow gq W := ⟨hglt, fun j hj => (hcell j hj).trans (by
      have : ∀ j (h : j < 9), allTs[j]'h = typeT j := by decide
      rw [this j hj])⟩
    have hc := hv.cell
    clear hfr hH hcell hown
    have hl9 : allTs.length = 9 := rfl
    rw [hl9] at hv hc
    clear hl9
    gi_wp2_with (refine ⟨trivial, ?_⟩; gi_at_call 24; refine (callsIn_wide.2 hS).mono ?_; rintro e w2 ⟨rfl, hb2⟩; have hv2 : Boxed w2 w.heap.size 30 (.slice (some ⟨gq, 0, none⟩) 9 uc) := (hb2.block _ hv.lt).trans hv; have hc2 := hv2.cell; have hK2 := heap_below hK hb2)
    refine ⟨by simp, .inl ⟨_, _, rfl, run_takeDeferred hK2, ?_⟩⟩
    have hT2 := hT.below hb2
    refine ⟨_, results_tmp rfl _ _ _, gq, uc, rfl, ⟨by simpa using hT2.1, fun j hj => ?_⟩, below_putO (hB.trans (hb2.mono hB.size)) (by have := HZ.out; omega) (Nat.le_refl _)⟩
    rw [World.cell?_of_block (a := ⟨gq, j, none⟩) (World.putObj_heap_other hDg)]
    exact hT2.2 j hj
  case stop =>
    rintro D c pre W _ _ h _
    exact h.elim
end
end Go.Proofs.YtoohhoillblaoaaDoor
