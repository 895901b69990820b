/-
  rset.Sets once more: all that it makes lies behind what was there. (Written by wip/tools/gensetef.py.)
-/
import Derived.Test.YtckammgnmgkieaaMQ34
import Derived.Test.YtckammgnmgkieaaMQ17
import Derived.Test.YtckammgnmgkieaaMQ40
import Derived.Test.YtckammgnmgkieaaMQ20
import Derived.Test.YtckammgnmgkieaaMQ35
import Derived.Test.YtckammgnmgkieaaMQ18
import Derived.Test.YtckammgnmgkieaaMQ33
import Derived.Deep.RegionHeld3
import Derived.Test.YtckammgnmgkieaaMQ29
import Derived.Test.YtckammgnmgkieaaMQ10
import Derived.Test.YtckammgnmgkieaaMQ27
import Derived.Test.YtckammgnmgkieaaMQ12
namespace Go.Proofs.Ytckammgnmgkieaa
set_option maxRecDepth 20000
open Go.RowKit Go.Shelf
set_option maxRecDepth 20000
set_option linter.unusedVariables false
set_option linter.unusedSimpArgs false
/-- What lies from a mark on lies as it lay. -/
def FarKeep (n : Nat) (W W' : World) : Prop := ∀ g, n ≤ g → g < W.heap.size → W'.heap[g]? = W.heap[g]?
theorem FarKeep.mono {n m : Nat} {W W' : World} (h : FarKeep n W W') (hm : n ≤ m) : FarKeep m W W' := fun g h1 h2 => h g (by omega) h2
theorem own_move {W W' : World} {base : Nat} {T : TypeId} {k n : Nat} {v : Value} {cells : List Value} (h : W.ownsRow base T k v n cells) (hf : FarKeep base W W') : W'.ownsRow base T k v n cells := by
  refine ⟨h.1, ?_⟩
  rcases h.2 with h | ⟨g, cap, cur, e, hb, hg, h2⟩
  · exact .inl h
  · exact .inr ⟨g, cap, cur, e, hb, (hf g hb (kblock_lt hg)).trans hg, h2⟩
theorem OwnK.move {α : Type} {k : Nat} {T : TypeId} {enc : α → List Value} {W W' : World} {base : Nat} {v : Value} {xs : List α} (h : OwnK k T enc W base v xs) (hf : FarKeep base W W') : OwnK k T enc W' base v xs := own_move h hf
theorem OwnG.move {α : Type} {T : TypeId} {enc : α → Value} {W W' : World} {base : Nat} {v : Value} {xs : List α} (h : OwnG T enc W base v xs) (hf : FarKeep base W W') : OwnG T enc W' base v xs := own_move h hf
theorem FrAt.move {W W' : World} {base : Nat} {cs : List Value} {r : Rc} (h : FrAt W base cs r) (hf : FarKeep base W W') : FrAt W' base cs r := by
  obtain ⟨vo, vn, vu, vt, vr, e, h1, ⟨⟨vs, k1, k2, k3⟩, i1, i2, i3⟩⟩ := h
  exact ⟨vo, vn, vu, vt, vr, e, h1.move hf, ⟨⟨vs, k1.move hf, k2, fun i a b => (k3 i a b).move hf⟩, i1.move hf, i2.move hf, i3.move hf⟩⟩
def SetsPostF (w : World) (l : List St) (e : Ending) (w' : World) : Prop := ∃ v, e = .returned v ∧ RowS w' v l ∧ Below w.heap.size w w' ∧ ∀ W', FarKeep w.heap.size w' W' → RowS W' v l
section
attribute [local go_sem] Oper.semAt_some
set_option maxRecDepth 100000 in
set_option maxHeartbeats 16000000 in
theorem rset_SetsF (v : Value) (css0 : List (List Value)) (l : List Rc) (w : World) (hA : SlK w v css0) (hR : Rcs w css0 l) (hOK : ∀ r ∈ l, RcOK r) (hl : css0.length ≤ 1048576) :
    Calls Try.prog 36 #[v] w (SetsPostF w (setsM (canonM l))) := by
  have hb0 : Below w.heap.size w (w.alloc (.cells #[.slice none 0 0] 55)) := (Below.refl _ w).alloc (Nat.le_refl _) _
  have hC := rec_Canon v css0 l (w.alloc (.cells #[.slice none 0 0] 55)) (hA.below hb0) (hR.below hb0) hOK hl
  have HL := Lib.hid (show l.length ≤ 1048576 by have := hR.1; omega)
  have HOK := Lib.hid (canonM_ok' l hOK)
  obtain ⟨a, c, rfl, -⟩ := id hA
  obtain ⟨n0, hn0⟩ : ∃ n, css0.length = n := ⟨_, rfl⟩
  rw [hn0] at hC ⊢
  obtain ⟨L, hL⟩ : ∃ L, canonM l = L := ⟨_, rfl⟩
  have HLn := Lib.hid (show L.length ≤ 1048576 by rw [← hL]; have := canonM_length l; have := HL.out; omega)
  unfold CanonPost at hC
  rw [hL] at hC HOK ⊢
  clear hA hR hOK hl hn0 hb0 hL HL
  refine (callsIn_wide (n := 8)).1 ?_
  refine callsIn_of_wp_marks Try.func36 rfl trivial ?_ rfl
  simp only [Try.ntmps36, List.size_toArray, List.length_cons, List.length_nil, Nat.reduceAdd, Nat.reduceSub, Array.replicate_succ, Array.replicate_zero, List.push_toArray, List.append_toArray, List.nil_append, List.cons_append]
  gi_wp2_with (refine ⟨trivial, ?_⟩; gi_at_call 23; refine (callsIn_wide.2 hC).mono ?_; rintro e w1 ⟨v1, css, rfl, ho1, hl1, hf1, hb1⟩; obtain ⟨a1, c1, rfl⟩ := OwnK.shape ho1; obtain ⟨m, hm⟩ : ∃ m, css.length = m := ⟨_, rfl⟩; rw [hm] at ho1 hl1; have HO1 := Lib.hid ho1; have HL1 := Lib.hid hl1; have HF1 := Lib.hid hf1; have HB1 := Lib.hid hb1; have HM := Lib.hid hm; clear ho1 hl1 hf1 hb1 hC)
  refine ⟨trivial, ?_⟩
  refine (callsIn_wide.2 (rset_sets _ _ _ _)).mono ?_
  rintro e w2 ⟨rfl, rfl⟩
  gi_wp2
  obtain ⟨B, hB⟩ : ∃ B, w.heap.size = B := ⟨_, rfl⟩
  have hB1 : (w.alloc (.cells #[.slice none 0 0] 55)).heap.size = B + 1 := by rw [World.size_alloc, hB]
  obtain ⟨W0, hW0⟩ : ∃ W0, w1.alloc (.cells #[.slice a1 m c1] 24) = W0 := ⟨_, rfl⟩
  obtain ⟨N, hN⟩ : ∃ N, W0.heap.size = N := ⟨_, rfl⟩
  have hsz : N = w1.heap.size + 1 := by rw [← hN, ← hW0]; simp
  have hs1 : B + 1 ≤ w1.heap.size := by rw [← hB1]; exact HB1.out.size
  have hBx : Boxed w1 B 55 (.slice none 0 0) := by
    have h := Boxed.new w 55 (.slice none 0 0)
    rw [hB] at h
    exact (HB1.out.block B (by omega)).trans h
  have hw1 : Below w.heap.size w w1 := (((Below.refl _ w).alloc (Nat.le_refl _) _).trans (HB1.out.mono (by simp)))
  have hB01 : Below w1.heap.size w1 W0 := by rw [← hW0]; exact (Below.refl _ w1).alloc (Nat.le_refl _) _
  have b1 : Boxed W0 w1.heap.size 24 (.slice a1 m c1) := by rw [← hW0]; exact Boxed.new w1 _ _
  have hBx0 : Boxed W0 B 55 (.slice none 0 0) := (hB01.block B (by omega)).trans hBx
  have hw0 : Below w.heap.size w W0 := hw1.trans (hB01.mono (by omega))
  have hml : m = L.length := HL1.out
  have hmb : m ≤ 1048576 := by have := HLn.out; omega
  have hfr : ∀ j (h1 : j < css.length) (h2 : j < L.length), FrAt W0 (B + 1) css[j] L[j] := fun j h1 h2 => by
    have h := (HF1.out j h1 h2).below hB01
    rw [hB1] at h; exact h
  have hst : ∀ W, KpX N B W0 W → Rcs W css L := fun W hK => ⟨by rw [hm]; exact hml, fun i h1 h2 => ((hfr i h1 h2).keptX (by omega) (hK.grownX hN.symm)).rcAt⟩
  have HST2 := Lib.hid (fun W (hK : KpX N B W0 W) W' (hg : FarKeep (B + 1) W W') => (show Rcs W' css L from ⟨by rw [hm]; exact hml, fun i h1 h2 => (((hfr i h1 h2).keptX (by omega) (hK.grownX hN.symm)).move hg).rcAt⟩))
  have hsl : SlK W0 (.slice a1 m c1) css := (SlK.of_own HO1.out (fun cs hc => by
    obtain ⟨i, hi, rfl⟩ := List.mem_iff_getElem.1 hc
    exact (HF1.out i hi (by omega)).rcAt.len)).below hB01
  have hown : ∀ b, (Value.slice a1 m c1).ownBlock = some b → b ≠ B := fun b e => by
    have := OwnK.base_le HO1.out b e
    rw [hB1] at this; omega
  obtain ⟨vo, vn, vu, vt, vr, hc⟩ := rcs_shapes (hst W0 (KpX.refl _ _ _))
  have HSEQ := Lib.hid (sets_stops N B W0 a1 m c1 w1.heap.size css L vo vn vu vt vr hsl hm hmb hst HOK.out hN.symm (by omega) (by omega) hown b1 hc)
  rw [hB, hW0]
  have HSZ := Lib.hid hsz; have HS1 := Lib.hid hs1; have HW0 := Lib.hid hw0; have HB := Lib.hid hB; have HN := Lib.hid hN; have HST := Lib.hid hst; have HMB := Lib.hid hmb; have HCC := Lib.hid hc; have HMM := Lib.hid hm
  clear hsz hs1 hw0 hBx hw1 hB01 b1 HB1 hW0 hB hN hst hmb hc hfr hsl hown hml HF1 HO1 hB1 hm
  refine wpIn_rangeFunc_D rfl (by omega) (gf := 73) (lb := #[.pointer (some ⟨w1.heap.size, 0, none⟩)]) rfl trivial (enters_of Try.func73 (by kernel_rfl) rfl)
    HSEQ.out (fun h k => h.trans k)
    (fun W l o o' hl h h1 h2 => ⟨rfl, rfl, rfl, by simp, fun k a b => World.putObj_heap_other (by have := HN.out; omega)⟩) (Below.refl _ _) (fun _ => rfl)
    (SetI N B W0 css vo L) (fun k pre W => False) (by rw [HN.out]; exact setI_own (by have := HSZ.out; have := HS1.out; omega) (by rw [HN.out]; omega)) (fun _ => ownFrom_pure _ _)
    ⟨KpX.refl _ _ _, .slice none 0 0, hBx0, OwnK.nil _ _, fun x h => by cases h⟩
    (fun x a' W => ∃ b, a' = { tmps := #[.slice a n0 c, undef, .slice none 0 0, .pointer (some ⟨B, 0, none⟩), .pointer (some ⟨b, 0, none⟩), .slice a n0 c, .slice a1 m c1, .func (.func 73) #[] #[.pointer (some ⟨w1.heap.size, 0, none⟩)], .agg (setC vo L x).toArray, undef, undef, undef, undef, undef], defers := [] } ∧ W0.heap.size ≤ b ∧ W.heap[b]? = some (.cells (setC vo L x).toArray 64) ∧ DatO N css x W)
    (fun a' x W W' row ⟨b, ha, hb, hx, hd⟩ hg hr => ⟨b, ha, hb, (hg.block b (kblock_lt hx) (fun e => by obtain ⟨_, o, ho, hcell⟩ := hr b e.symm; rw [hx] at ho; cases ho; cases hcell)).trans hx, hd.keptO hg (fun r e => (hr r e).2)⟩) ?assign ?body ?done ?stop
  case assign =>
    intro l pre x W K hi hd hK
    have hNW : N ≤ W.heap.size := by rw [← HN.out]; exact hi.1.size
    have hbA : ∀ o, Below W.heap.size W (W.alloc o) := fun o => (Below.refl _ W).alloc (Nat.le_refl _) o
    unfold setV
    gi_wp2
    exact hK _ _ ((KeepsOthers.of_below (hbA _)).from _) (KpX.of_below hNW (hbA _)) ⟨hi.1.trans (KpX.of_below hNW (hbA _)), hi.2.below (hbA _)⟩ ⟨W.heap.size, rfl, by rw [HN.out]; exact hNW, knew W _, OwnK.below hd (hbA _)⟩
  case body =>
    rintro l pre x a' W ⟨hK, v, h2, h3, h4⟩ ⟨b, rfl, hb, hbx, hdx⟩ hlt
    have hNW : N ≤ W.heap.size := by rw [← HN.out]; exact hK.size
    obtain ⟨ao, co, rfl⟩ := OwnK.shape h3
    obtain ⟨lp, hlp⟩ : ∃ n, (pre.map fun x => setC vo L x).length = n := ⟨_, rfl⟩
    rw [hlp] at h2 h3
    have hlp2 : lp ≤ 1048576 := by have := HMB.out; rw [← hlp, List.length_map]; omega
    have HX := Lib.hid hdx; have HK := Lib.hid hK; have H2 := Lib.hid h2; have H3 := Lib.hid h3; have H4 := Lib.hid h4; have HNW := Lib.hid hNW
    have HLP := Lib.hid hlp; have HLP2 := Lib.hid hlp2
    have hc0 := h2.cell
    obtain ⟨x0, hx0⟩ : ∃ y, y = setC vo L x := ⟨_, rfl⟩
    have hcs : ∃ p0 q0 k0 t1 t2 p3 q3 k3, setC vo L x = [.slice p0 q0 k0, .int .i64 t1, .int .u32 t2, .slice p3 q3 k3] := ⟨_, _, _, _, _, _, _, _, rfl⟩
    obtain ⟨p0, q0, k0, t1, t2, p3, q3, k3, ecs⟩ := hcs
    have HEC := Lib.hid ecs
    rw [ecs] at hbx
    have y0 := kcell hbx 0 _ rfl; have y1 := kcell hbx 1 _ rfl; have y2 := kcell hbx 2 _ rfl; have y3 := kcell hbx 3 _ rfl
    have hone : ∀ u ∈ [Value.slice p0 q0 k0, .int .i64 t1, .int .u32 t2, .slice p3 q3 k3], u.oneCell' = true := by
      intro u hu; simp only [List.mem_cons, List.not_mem_nil, or_false] at hu; rcases hu with rfl | rfl | rfl | rfl <;> rfl
    have HONE := Lib.hid hone
    rw [ecs]
    clear hbx hdx hK h2 h3 h4 hNW hlp hlp2 ecs hone hx0 hBx0 HSEQ
    gi_wp2_with (gi_at_builtin; refine wplIn_append_c W rfl (.tmp 9) (.tmp 11) elem_set (by decide) rfl N (.slice ao lp co) _ rfl H3.out [.slice p0 q0 k0, .int .i64 t1, .int .u32 t2, .slice p3 q3 k3] rfl HONE.out 1 (by simp [Act.eval]) HNW.out (by have := HLP2.out; rw [HLP.out]; unfold maxLen; omega) (by have := HLP2.out; rw [HLP.out]; omega) ?_; intro v6 w6 hown6 hg6; obtain ⟨a9, c9, e9⟩ := OwnK.shape hown6; generalize List.length _ = ln at e9; subst e9; have hne6 : some B ≠ (Value.slice ao lp co).ownBlock := OwnK.ne_block H3.out H2.out (by decide); have hBx6 := H2.out.kept hg6 hne6; have c6 := hBx6.cell; have f6 := hBx6.frozen; have HOW6 := Lib.hid hown6; have HG6 := Lib.hid hg6; clear hown6 hg6 hBx6 hne6)
    have hK6 : KpX N B W (w6.setCell ⟨B, 0, none⟩ (.slice a9 ln c9)) :=
      (KpX.grown HNW.out HG6.out (fun r e => .inl (OwnK.base_le H3.out r e))).trans (KpX.grown (Nat.le_trans HNW.out HG6.out.size) (grownBy_set w6 B 0 _) (fun r e => by cases e; exact .inr rfl))
    have hko : KeepsOthers W (w6.setCell ⟨B, 0, none⟩ (.slice a9 ln c9)) := (KeepsOthers.grown_c H3.out HG6.out).trans (KeepsOthers.setCell _ _ _)
    refine ⟨hko.from _, hK6, HK.out.trans hK6, SOut.snoc H2.out H3.out H4.out HX.out ?_ HG6.out⟩
    rw [HEC.out]; exact HOW6.out
  case done =>
    rintro d xs W hd hxs ⟨hK, v, h2, h3, h4⟩ hD0
    have hc := h2.cell
    have HXS := Lib.hid hxs; have HK := Lib.hid hK; have H2 := Lib.hid h2; have H3 := Lib.hid h3; have H4 := Lib.hid h4; have HD := Lib.hid hd
    clear hxs hK h3 h4 hd h2
    gi_wp2
    refine ⟨by simp, .inl ⟨_, _, rfl, run_takeDeferred hD0, ?_⟩⟩
    refine ⟨_, results_tmp rfl _ _ _, ?_⟩
    have hr : ∀ r, some d = some r → ∃ o : Obj, W.heap[r]? = some o ∧ o.isCells = false := fun r e => by cases e; exact ⟨_, hD0, rfl⟩
    have hDN : N ≤ d := by have := HD.out; rw [HN.out] at this; exact this
    have hwN : w.heap.size ≤ N := by have := HN.out; have := HW0.out.size; omega
    have hg := grownBy_putObj' W d (.deferred none)
    have hK2 : KpX N B W0 (W.putObj d (.deferred none)) := HK.out.trans (KpX.grown (by rw [← HN.out]; exact HK.out.size) hg (fun r e => by cases e; exact .inl hDN))
    have hlen : xs.length = (setsM L).length := by rw [← segs_sets, List.length_map, ← HXS.out, List.length_map]
    have hown2 : OwnC 4 64 (W.putObj d (.deferred none)) N v (xs.map fun x => setC vo L x) := OwnC.keptO H3.out hg hr
    have hdat2 : ∀ x ∈ xs, DatO N css x (W.putObj d (.deferred none)) := fun x hx => (H4.out _ hx).keptO hg hr
    have hBN : B < N := by have := HSZ.out; have := HS1.out; omega
    have key : ∀ W', OwnC 4 64 W' N v (xs.map fun x => setC vo L x) → (∀ x ∈ xs, DatO N css x W') → Rcs W' css L → RowS W' v (setsM L) := fun W' k1 k2 k3 => by
      refine ⟨xs.map (fun x => setC vo L x), SlK.of_own k1 (fun cs hc => by obtain ⟨x, _, rfl⟩ := List.mem_map.1 hc; rfl), by rw [List.length_map]; exact hlen, fun j h1 h2 => ?_⟩
      rw [List.length_map] at h1
      have e : (setsM L)[j] = setR L xs[j].1.1 := by
        have h5 : (setsM L)[j]? = ((segsS L).map (setR L))[j]? := by rw [segs_sets]
        rw [List.getElem?_eq_getElem h2, ← HXS.out, List.map_map, List.getElem?_map, List.getElem?_eq_getElem h1] at h5
        simpa using h5
      rw [e, List.getElem_map]
      exact setR_of HMM.out k3 HCC.out xs[j] (k2 _ (List.getElem_mem h1))
    refine ⟨v, rfl, key _ hown2 hdat2 (HST.out _ hK2), ?_, fun W' hg' => ?_⟩
    · exact below_putO (HW0.out.trans (HK.out.below (by have := HB.out; omega) hwN)) (by omega) (Nat.le_refl _)
    · have hg2 : FarKeep B (W.putObj d (.deferred none)) W' := by rw [← HB.out]; exact hg'
      exact key _ (OwnK.move hown2 (hg2.mono (by omega))) (fun x hx => OwnK.move (hdat2 x hx) (hg2.mono (by omega))) (HST2.out _ hK2 W' (hg2.mono (by omega)))
  case stop =>
    rintro d c3 pre W hd hp hF hK
    exact hF.elim
end
end Go.Proofs.Ytckammgnmgkieaa

/-
  CheckGrows, plainly: what a text more does to a zone's flaws.
-/
namespace Go.Proofs.Ytckammgnmgkieaa
set_option maxRecDepth 20000
open Go.RowKit
set_option linter.unusedVariables false
set_option linter.unusedSimpArgs false
theorem sets_of_filter {c : List Rc} (hc : StrictR c) {o : Nm} {t : Int} {y : Rc} {r : List Rc} (h : c.filter (belM o t) = y :: r) : stR y r ∈ setsM c ∧ y.data.ty = t ∧ sameN y.owner o = true := by
  have hy : y ∈ c.filter (belM o t) := by rw [h]; simp
  obtain ⟨hyc, hb⟩ := List.mem_filter.1 hy
  simp only [belM, Bool.and_eq_true, decide_eq_true_eq] at hb
  obtain ⟨s, hs, hsb⟩ := sets_has _ c (Nat.le_refl _) y hyc
  obtain ⟨y', r', e1, e2, e3⟩ := sets_filter _ c (Nat.le_refl _) hc s hs
  simp only [belM, Bool.and_eq_true, decide_eq_true_eq] at hsb
  have hso : sameN s.owner o = true := sameN_trans (by rw [sameN_symm]; exact hsb.2) hb.2
  have hf : c.filter (belM s.owner s.ty) = c.filter (belM o t) := by
    apply List.filter_congr
    intro z _
    rw [← hsb.1, hb.1]; exact belM_same hso t z
  rw [hf, h] at e3
  injection e3 with e4 e5
  subst e4; subst e5
  exact ⟨by rw [← e1]; exact hs, hb⟩
theorem filter_ne {c : List Rc} {o : Nm} {t : Int} {y : Rc} (hy : y ∈ c) (hb : belM o t y = true) : ∃ z r, c.filter (belM o t) = z :: r := by
  cases h : c.filter (belM o t) with
  | nil => rw [List.filter_eq_nil_iff] at h; exact absurd hb (h y hy)
  | cons z r => exact ⟨z, r, rfl⟩
section
variable {c : List Rc} {x : Rc}
theorem ins_bel (hc : StrictR c) {o : Nm} {t : Int} (hx : ¬ x.data.ty = t) : (insR c x).filter (belM o t) = c.filter (belM o t) := by
  rw [insR_filter (fun a b h => belM_eq (keyR_eq h)) x _ hc (fun y _ => rfl), if_neg]
  simp [belM, hx]
theorem ins_point (hc : StrictR c) (hx : ¬ x.data.ty = 2) (n : Nm) : pointM (insR c x) n = pointM c n := by
  unfold pointM
  rw [insR_filter (fun a b h => by rw [cR_type h, under_sameN (cR_owner h)]) x _ hc (fun y _ => rfl), if_neg]
  simp [hx]
theorem ins_where (hc : StrictR c) (hx : ¬ x.data.ty = 2) (o n : Nm) : whereM o (insR c x) n = whereM o c n := by
  have : cutM o (insR c x) n = cutM o c n := by unfold cutM; rw [ins_point hc hx]
  unfold whereM; rw [this]
theorem ins_of (hc : StrictR c) {t : Int} (hx : ¬ x.data.ty = t) (o : Nm) : ofM (insR c x) o t = ofM c o t := by
  unfold ofM; rw [ins_bel hc hx]
theorem ins_at0 (hc : StrictR c) (hx : x.data.ty = 16) (o : Nm) : at0M o (insR c x) = at0M o c := by
  unfold at0M; rw [ins_of hc (by omega), ins_of hc (by omega)]
theorem sets_up (hc : StrictR c) (hx : x.data.ty = 16) {s : St} (h : s ∈ setsM c) : ∃ s' ∈ setsM (insR c x), s'.ty = s.ty ∧ sameN s'.owner s.owner = true ∧ (¬ s.ty = 16 → s' = s) := by
  obtain ⟨y, r, e1, e2, e3⟩ := sets_filter _ c (Nat.le_refl _) hc s h
  by_cases ht : s.ty = 16
  · have hyb : belM s.owner s.ty y = true := (List.mem_filter.1 (show y ∈ c.filter (belM s.owner s.ty) by rw [e3]; simp)).2
    obtain ⟨z, hz, h1, _⟩ := (insR_has x c).2 y e2
    obtain ⟨z', r', hf⟩ := filter_ne (o := s.owner) (t := s.ty) hz (by rw [belM_eq (keyR_eq h1)]; exact hyb)
    obtain ⟨g1, g2, g3⟩ := sets_of_filter (insR_strict x c hc) hf
    exact ⟨_, g1, g2, g3, fun e => absurd ht e⟩
  · have hf := ins_bel (x := x) hc (o := s.owner) (t := s.ty) (by omega)
    rw [e3] at hf
    obtain ⟨g1, g2, g3⟩ := sets_of_filter (insR_strict x c hc) hf
    exact ⟨_, g1, g2, g3, fun _ => e1.symm⟩
theorem sets_down (hc : StrictR c) (hx : x.data.ty = 16) {s : St} (h : s ∈ setsM (insR c x)) : (∃ s' ∈ setsM c, s'.ty = s.ty ∧ sameN s'.owner s.owner = true ∧ (¬ s.ty = 16 → s' = s)) ∨ (s.ty = 16 ∧ sameN s.owner x.owner = true) := by
  obtain ⟨y, r, e1, e2, e3⟩ := sets_filter _ _ (Nat.le_refl _) (insR_strict x c hc) s h
  by_cases ht : s.ty = 16
  · have hyb : belM s.owner s.ty y = true := (List.mem_filter.1 (show y ∈ (insR c x).filter (belM s.owner s.ty) by rw [e3]; simp)).2
    obtain ⟨a, ha, h1, _⟩ := insR_of x c y e2
    have hab : belM s.owner s.ty a = true := by rw [belM_eq (keyR_eq h1)]; exact hyb
    rcases ha with rfl | ha
    · right
      simp only [belM, Bool.and_eq_true, decide_eq_true_eq] at hab
      exact ⟨ht, by rw [sameN_symm]; exact hab.2⟩
    · left
      obtain ⟨z', r', hf⟩ := filter_ne (o := s.owner) (t := s.ty) ha hab
      obtain ⟨g1, g2, g3⟩ := sets_of_filter hc hf
      exact ⟨_, g1, g2, g3, fun e => absurd ht e⟩
  · left
    have hf := ins_bel (x := x) hc (o := s.owner) (t := s.ty) (by omega)
    rw [e3] at hf
    obtain ⟨g1, g2, g3⟩ := sets_of_filter hc hf.symm
    exact ⟨_, g1, g2, g3, fun _ => e1.symm⟩
theorem sameN_lenN {a b : Nm} (h : sameN a b = true) : a.length = b.length := by
  have := congrArg List.length ((sameN_iff _ _).1 h)
  simpa [foldN] using this
theorem cut_same {a b : Nm} (h : sameN a b = true) (o : Nm) (rs : List Rc) : cutM o rs a = cutM o rs b := by
  have hu : ∀ z, underN a z = underN b z := fun z => sameN_under h z
  unfold cutM
  rw [hu, sameN_lenN h]
  have : pointM rs a = pointM rs b := by unfold pointM; simp only [hu]
  rw [this]
theorem where_same {a b : Nm} (h : sameN a b = true) (o : Nm) (rs : List Rc) : whereM o rs a = whereM o rs b := by
  unfold whereM
  rw [cut_same h, sameN_under h, sameN_lenN h]
theorem cover_same {a b : Nm} (h : sameN a b = true) (cs : List Nm) : coverM cs a = coverM cs b := by
  unfold coverM
  simp only [sameN_under h, sameN_lenN h]
theorem same_left {a b : Nm} (h : sameN a b = true) (z : Nm) : sameN a z = sameN b z := by
  cases h2 : sameN b z with
  | true => exact sameN_trans h h2
  | false =>
    cases h3 : sameN a z with
    | false => rfl
    | true => rw [sameN_trans (by rw [sameN_symm]; exact h) h3] at h2; cases h2
theorem ins_covers (hc : StrictR c) (hx : x.data.ty = 16) (o n : Nm) : coverM (coversM o (insR c x) (setsM (insR c x))) n = coverM (coversM o c (setsM c)) n := by
  unfold coverM coversM
  rw [Bool.eq_iff_iff, List.any_eq_true, List.any_eq_true]
  constructor
  · rintro ⟨d, hd, hp⟩
    obtain ⟨s, hs, rfl⟩ := List.mem_map.1 hd
    obtain ⟨hs, hq⟩ := List.mem_filter.1 hs
    rw [ins_where hc (by omega)] at hq
    have ht : s.ty = 39 := by simp at hq; exact hq.1
    rcases sets_down hc hx hs with ⟨s', h1, h2, h3, h4⟩ | ⟨h1, _⟩
    · obtain rfl := h4 (by omega)
      exact ⟨_, List.mem_map.2 ⟨s', List.mem_filter.2 ⟨h1, hq⟩, rfl⟩, hp⟩
    · omega
  · rintro ⟨d, hd, hp⟩
    obtain ⟨s, hs, rfl⟩ := List.mem_map.1 hd
    obtain ⟨hs, hq⟩ := List.mem_filter.1 hs
    rw [← ins_where (x := x) hc (by omega)] at hq
    have ht : s.ty = 39 := by simp at hq; exact hq.1
    obtain ⟨s', h1, h2, h3, h4⟩ := sets_up hc hx hs
    obtain rfl := h4 (by omega)
    exact ⟨_, List.mem_map.2 ⟨s', List.mem_filter.2 ⟨h1, hq⟩, rfl⟩, hp⟩
theorem other_up (hc : StrictR c) (hx : x.data.ty = 16) {s s' : St} (ht : s'.ty = s.ty) (ho : sameN s'.owner s.owner = true) (h : otherM (setsM c) s = true) : otherM (setsM (insR c x)) s' = true := by
  unfold otherM at h ⊢
  rw [List.any_eq_true] at h ⊢
  obtain ⟨o, h1, h2⟩ := h
  simp only [Bool.and_eq_true, decide_eq_true_eq] at h2
  obtain ⟨o', g1, g2, g3, _⟩ := sets_up hc hx h1
  refine ⟨o', g1, ?_⟩
  simp only [Bool.and_eq_true, decide_eq_true_eq]
  exact ⟨by rw [g2, ht]; exact h2.1, sameN_trans g3 (sameN_trans h2.2 (by rw [sameN_symm]; exact ho))⟩
theorem other_down (hc : StrictR c) (hx : x.data.ty = 16) {s s' : St} (ht : s'.ty = s.ty) (ho : sameN s'.owner s.owner = true) (h : otherM (setsM (insR c x)) s = true) : otherM (setsM c) s' = true ∨ sameN s.owner x.owner = true := by
  unfold otherM at h ⊢
  rw [List.any_eq_true] at h ⊢
  obtain ⟨o, h1, h2⟩ := h
  simp only [Bool.and_eq_true, decide_eq_true_eq] at h2
  rcases sets_down hc hx h1 with ⟨o', g1, g2, g3, _⟩ | ⟨_, g⟩
  · left
    refine ⟨o', g1, ?_⟩
    simp only [Bool.and_eq_true, decide_eq_true_eq]
    exact ⟨by rw [g2, ht]; exact h2.1, sameN_trans g3 (sameN_trans h2.2 (by rw [sameN_symm]; exact ho))⟩
  · right
    exact sameN_trans (by rw [sameN_symm]; exact h2.2) g
theorem where_range (o : Nm) (rs : List Rc) (n : Nm) : whereM o rs n = 0 ∨ whereM o rs n = 1 ∨ whereM o rs n = 2 ∨ whereM o rs n = 3 := by
  unfold whereM
  split
  · split
    · simp
    · split <;> simp
  · simp
/-- The one kind that a text may be wrong in. -/
def kind0 (w : Int) : Int := if w = 0 then 4 else if w = 1 then 8 else 7
theorem kinds16 {o : Nm} {w : Int} {oth cov : Bool} {s : St} (hs : s.ty = 16) {k : Int} (hk : k ∈ kindsW o w oth cov s) : k = kind0 w := by
  rcases mem_kinds.1 hk with ⟨h, e⟩ | ⟨h, e⟩ | ⟨h, e⟩ | ⟨h, e⟩ | ⟨h, e⟩ | ⟨h, e⟩
  · simp [kind4, hs] at h; simp [kind0, h, e]
  · simp [kind5, hs] at h
  · simp [kind6, hs] at h
  · simp [kind7, hs] at h; rcases h with h | h <;> simp [kind0, h, e]
  · simp [kind8] at h; simp [kind0, h, e]
  · simp [kind9, hs] at h
theorem kinds_up (hc : StrictR c) (hx : x.data.ty = 16) (o : Nm) {s s' : St} (h1 : s'.ty = s.ty) (h2 : sameN s'.owner s.owner = true) (h3 : ¬ s.ty = 16 → s' = s) {k : Int} (hk : k ∈ kindsM o c (setsM c) s) : k ∈ kindsM o (insR c x) (setsM (insR c x)) s' := by
  unfold kindsM at hk ⊢
  rw [ins_where hc (by omega), ins_covers hc hx, where_same h2, cover_same h2]
  have ho := other_up hc hx h1 h2
  generalize otherM (setsM c) s = a at *
  generalize otherM (setsM (insR c x)) s' = b at *
  generalize whereM o c s.owner = w at *
  generalize coverM (coversM o c (setsM c)) s.owner = cv at *
  rw [mem_kinds] at hk ⊢
  by_cases ht : s.ty = 16
  · rcases hk with ⟨h, e⟩ | ⟨h, e⟩ | ⟨h, e⟩ | ⟨h, e⟩ | ⟨h, e⟩ | ⟨h, e⟩
    · left; simp [kind4, ht, h1] at h ⊢; exact ⟨h, e⟩
    · simp [kind5, ht] at h
    · simp [kind6, ht] at h
    · right; right; right; left; simp [kind7, ht, h1] at h ⊢; exact ⟨h, e⟩
    · right; right; right; right; left; exact ⟨h, e⟩
    · simp [kind9, ht] at h
  · obtain rfl := h3 ht
    rcases hk with h | ⟨h, e⟩ | h | h | h | h
    · exact .inl h
    · refine .inr (.inl ⟨?_, e⟩)
      simp only [kind5, Bool.and_eq_true, decide_eq_true_eq] at h ⊢
      exact ⟨h.1, ho h.2⟩
    · exact .inr (.inr (.inl h))
    · exact .inr (.inr (.inr (.inl h)))
    · exact .inr (.inr (.inr (.inr (.inl h))))
    · exact .inr (.inr (.inr (.inr (.inr h))))
theorem kinds_down (hc : StrictR c) (hx : x.data.ty = 16) (o : Nm) {s s' : St} (h1 : s'.ty = s.ty) (h2 : sameN s'.owner s.owner = true) (h3 : ¬ s.ty = 16 → s' = s) {k : Int} (hk : k ∈ kindsM o (insR c x) (setsM (insR c x)) s) : k ∈ kindsM o c (setsM c) s' ∨ (k = 5 ∧ s.ty = 5 ∧ sameN s.owner x.owner = true) := by
  unfold kindsM at hk ⊢
  rw [ins_where hc (by omega), ins_covers hc hx] at hk
  rw [where_same h2, cover_same h2]
  have ho := other_down hc hx h1 h2
  generalize otherM (setsM c) s' = a at *
  generalize otherM (setsM (insR c x)) s = b at *
  generalize whereM o c s.owner = w at *
  generalize coverM (coversM o c (setsM c)) s.owner = cv at *
  rw [mem_kinds] at hk
  rw [mem_kinds]
  by_cases ht : s.ty = 16
  · left
    rcases hk with ⟨h, e⟩ | ⟨h, e⟩ | ⟨h, e⟩ | ⟨h, e⟩ | ⟨h, e⟩ | ⟨h, e⟩
    · left; simp [kind4, ht, h1] at h ⊢; exact ⟨h, e⟩
    · simp [kind5, ht] at h
    · simp [kind6, ht] at h
    · right; right; right; left; simp [kind7, ht, h1] at h ⊢; exact ⟨h, e⟩
    · right; right; right; right; left; exact ⟨h, e⟩
    · simp [kind9, ht] at h
  · obtain rfl := h3 ht
    rcases hk with h | ⟨h, e⟩ | h | h | h | h
    · exact .inl (.inl h)
    · simp only [kind5, Bool.and_eq_true, decide_eq_true_eq] at h
      rcases ho h.2 with ha | hb
      · refine .inl (.inr (.inl ⟨?_, e⟩))
        simp only [kind5, Bool.and_eq_true, decide_eq_true_eq]
        exact ⟨h.1, ha⟩
      · exact .inr ⟨e, h.1, hb⟩
    · exact .inl (.inr (.inr (.inl h)))
    · exact .inl (.inr (.inr (.inr (.inl h))))
    · exact .inl (.inr (.inr (.inr (.inr (.inl h)))))
    · exact .inl (.inr (.inr (.inr (.inr (.inr h)))))
theorem compareF_of {a b : Fl} (h1 : sameN a.owner b.owner = true) (h2 : a.kind = b.kind) (h3 : a.ty = b.ty) : compareF a b = 0 := compareF_zero.2 ⟨(compareN_zero _ _).2 h1, h2, h3⟩
/-- Each flaw that there was is there. -/
theorem grow_up (hc : StrictR c) (hx : x.data.ty = 16) (o : Nm) : ∀ f ∈ allF o c, ∃ g ∈ allF o (insR c x), compareF f g = 0 := fun f hf => by
  unfold allF flawsM at hf ⊢
  rw [ins_at0 hc hx]
  rcases List.mem_append.1 hf with h | h
  · exact ⟨f, List.mem_append.2 (.inl h), by have := cord_compareF.anti f f; omega⟩
  · obtain ⟨s, hs, h⟩ := List.mem_flatMap.1 h
    obtain ⟨k, hk, rfl⟩ := List.mem_map.1 h
    obtain ⟨s', h0, h1, h2, h3⟩ := sets_up hc hx hs
    refine ⟨⟨k, s'.owner, s'.ty⟩, List.mem_append.2 (.inr (List.mem_flatMap.2 ⟨s', h0, List.mem_map.2 ⟨k, kinds_up hc hx o h1 h2 h3 hk, rfl⟩⟩)), ?_⟩
    exact compareF_of (by rw [sameN_symm]; exact h2) rfl h1.symm
/-- Each flaw that is there was there, but two that the text itself may give. -/
theorem grow_down (hc : StrictR c) (hx : x.data.ty = 16) (o : Nm) : ∀ f ∈ allF o (insR c x), ∃ g ∈ allF o c ++ [⟨kind0 (whereM o c x.owner), x.owner, 16⟩, ⟨5, x.owner, 5⟩], compareF g f = 0 := fun f hf => by
  unfold allF flawsM at hf ⊢
  rw [ins_at0 hc hx] at hf
  rcases List.mem_append.1 hf with h | h
  · exact ⟨f, List.mem_append.2 (.inl (List.mem_append.2 (.inl h))), by have := cord_compareF.anti f f; omega⟩
  · obtain ⟨s, hs, h⟩ := List.mem_flatMap.1 h
    obtain ⟨k, hk, rfl⟩ := List.mem_map.1 h
    rcases sets_down hc hx hs with ⟨s', h0, h1, h2, h3⟩ | ⟨h1, h2⟩
    · rcases kinds_down hc hx o h1 h2 h3 hk with h4 | ⟨rfl, h5, h6⟩
      · exact ⟨⟨k, s'.owner, s'.ty⟩, List.mem_append.2 (.inl (List.mem_append.2 (.inr (List.mem_flatMap.2 ⟨s', h0, List.mem_map.2 ⟨k, h4, rfl⟩⟩)))), compareF_of h2 rfl h1⟩
      · exact ⟨⟨5, x.owner, 5⟩, List.mem_append.2 (.inr (by simp)), compareF_of (by rw [sameN_symm]; exact h6) rfl h5.symm⟩
    · refine ⟨⟨kind0 (whereM o c x.owner), x.owner, 16⟩, List.mem_append.2 (.inr (by simp)), compareF_of (by rw [sameN_symm]; exact h2) ?_ h1.symm⟩
      have := kinds16 h1 hk
      rw [ins_where hc (by omega), where_same h2] at this
      exact this.symm
end
theorem cF_trans {a b d : Fl} (h1 : compareF a b = 0) (h2 : compareF b d = 0) : compareF a d = 0 := by
  have t1 := cord_compareF.trans a b d (by omega) (by omega)
  have t2 := cord_compareF.trans d b a (by have := cord_compareF.anti b d; omega) (by have := cord_compareF.anti a b; omega)
  have := cord_compareF.anti a d
  omega
/-- Flaws that are apart, each of them one of some: no more than these. -/
theorem pigeon : ∀ (l m : List Fl), l.Pairwise (fun a b => compareF a b ≠ 0) → (∀ f ∈ l, ∃ g ∈ m, compareF g f = 0) → l.length ≤ m.length
  | [], m, _, _ => Nat.zero_le _
  | f :: l, m, hp, hm => by
    obtain ⟨g, hg, e⟩ := hm f (by simp)
    obtain ⟨m1, m2, rfl⟩ := List.append_of_mem hg
    have hp2 := List.pairwise_cons.1 hp
    have := pigeon l (m1 ++ m2) hp2.2 (fun f' hf' => by
      obtain ⟨g', hg', e'⟩ := hm f' (by simp [hf'])
      rcases List.mem_append.1 hg' with h | h
      · exact ⟨g', List.mem_append.2 (.inl h), e'⟩
      · rcases List.mem_cons.1 h with rfl | h
        · exfalso
          exact hp2.1 f' hf' (cF_trans (by have := cord_compareF.anti g' f; omega) e')
        · exact ⟨g', List.mem_append.2 (.inr h), e'⟩)
    simp only [List.length_append, List.length_cons] at this ⊢
    omega
theorem grow_len {c : List Rc} {x : Rc} (hc : StrictR c) (hx : x.data.ty = 16) (o : Nm) : (allF o (insR c x)).length ≤ (allF o c).length + 2 := by
  have := pigeon _ _ (allF_apart o (insR_strict x c hc)) (grow_down hc hx o)
  simpa using this
end Go.Proofs.Ytckammgnmgkieaa

/-
  zone.Glue.
-/
namespace Go.Proofs.Ytckammgnmgkieaa
set_option maxRecDepth 20000
open Go.RowKit Go.Shelf
set_option maxRecDepth 20000
set_option linter.unusedVariables false
set_option linter.unusedSimpArgs false
/-- append of a whole row of k cells each. -/
theorem wpl_append_cs {S T : TypeId} {k bytes : Nat} {ops : Array Oper} {rest : List Oper} {o : Oper} {a : Act} {Q : Exit → Act → World → Prop} (W : World) (hgd : o.guard = none) (s x : Operand) (hE : ElemK k T S bytes) (hk0 : 0 < k)
    (ho : o.op = .call { callee := .builtin .append, args := #[s, x], argTypes := #[S, S] })
    (base : Nat) (v : Value) (xs : List (List Value)) (hs : a.eval s = v) (hown : OwnC k T W base v xs)
    (src : Value) (yss : List (List Value)) (hx : a.eval x = src) (hsrc : SlK W src yss) (hy : ∀ ys ∈ yss, ys.length = k) (hy1 : ∀ ys ∈ yss, ∀ u ∈ ys, u.oneCell' = true)
    (hbase : base ≤ W.heap.size) (hk : xs.length + yss.length ≤ maxLen) (hk2 : (xs.length + yss.length) * bytes ≤ 140737488355328)
    (h : ∀ v' w', OwnC k T w' base v' (xs ++ yss) → W.grownBy w' v.ownBlock → wpList Try.prog ops Q rest (a.put o.dst v') w') :
    wpList Try.prog ops Q (o :: rest) a W := by
  obtain ⟨ht, i, z, hi, hz, hz1, hz2, hzc⟩ := hE
  obtain ⟨a0, c0, rfl, hc0, hn0, hcells⟩ := id hsrc
  cases a0 with
  | none =>
    have e3 := hn0 rfl
    subst e3
    obtain rfl : yss = [] := List.eq_nil_of_length_eq_zero (by omega)
    refine wpList_append_own_none hgd s x S ho base T i k ht hi v _ _ hs hown hx ?_
    exact h v W (by rw [List.append_nil]; exact hown) ⟨rfl, rfl, rfl, Nat.le_refl _, fun _ _ _ => rfl⟩
  | some ad =>
    have hcell : ∀ j u, yss.flatten[j]? = some u → W.cell? (ad.add j) = some u := by
      intro j u hj
      rcases hcells with e | ⟨b, off, e, _, hc⟩
      · subst e; simp at hj
      · cases e
        rw [Addr.add_lit]; exact hc j u hj
    have hlen : ∀ l : List (List Value), (∀ ys ∈ l, ys.length = k) → l.flatten.length = l.length * k := by
      intro l
      induction l with
      | nil => intro _; simp
      | cons y t ih =>
        intro hl
        rw [List.flatten_cons, List.length_append, hl y (by simp), ih fun ys hys => hl ys (by simp [hys]), List.length_cons, Nat.succ_mul]
        omega
    refine wpList_append_own _ hgd s x S ho base T i z k bytes ht hi hz hz1 hz2 hzc hk0 v xs.length (xs.flatMap fun cs => cs) hs hown ad yss.length c0 yss.flatten hx (hlen yss hy) hcell (by intro u hu; obtain ⟨ys, hys, hu⟩ := List.mem_flatten.1 hu; exact hy1 ys hys u hu) hk hk2 hbase ?_
    intro v' w' h1 h2 _
    refine h v' w' ?_ h2
    unfold OwnC OwnK
    rw [List.length_append, List.flatMap_append]
    have e : (yss.flatMap fun cs => cs) = yss.flatten := by rw [List.flatMap_id']
    rw [e]
    exact h1
theorem DRow.keptC {W W' : World} {base base' k : Nat} {vn vu vt vr v' : Value} {yss : List (List Value)} {d : Dat} (h : DRow W base vn vu vt vr d) (h' : OwnC k 31 W base' v' yss) (hg : W.grownBy W' v'.ownBlock) : DRow W' base vn vu vt vr d := by
  obtain ⟨⟨vs, k1, k2, k3⟩, i1, i2, i3⟩ := h
  exact ⟨⟨vs, k1.kept_c h' (by decide) hg, k2, fun i a b => (k3 i a b).kept_c h' (by decide) hg⟩, i1.kept_c h' (by decide) hg, i2.kept_c h' (by decide) hg, i3.kept_c h' (by decide) hg⟩
theorem FrSet.below {W W' : World} {base : Nat} {cs : List Value} {s : St} (h : FrSet W base cs s) (hb : Below W.heap.size W W') : FrSet W' base cs s := by
  obtain ⟨x0, x3, ds, e, h1, h2, h3, h4⟩ := h
  refine ⟨x0, x3, ds, e, h1.below hb, OwnK.below h2 hb, h3, fun j a b => ?_⟩
  obtain ⟨vn, vu, vt, vr, e2, h6⟩ := h4 j a b
  exact ⟨vn, vu, vt, vr, e2, h6.below hb⟩
theorem mem_le_sum : ∀ (l : List Nat), ∀ x ∈ l, x ≤ l.sum
  | [], x, h => by cases h
  | y :: t, x, h => by
    rw [List.sum_cons]
    rcases List.mem_cons.1 h with rfl | h
    · omega
    · have := mem_le_sum t x h; omega
theorem ofM_len (l : List Rc) (o : Nm) (t : Int) : ((ofM l o t).getD ⟨[], 0, 0, []⟩).data.length ≤ l.length := by
  cases h : ofM l o t with
  | none => simp
  | some s =>
    have hs : s ∈ setsM (canonM (l.filter (belM o t))) := by unfold ofM at h; exact List.mem_of_mem_head? h
    have h1 := sets_count (canonM (l.filter (belM o t))).length (canonM (l.filter (belM o t))) (Nat.le_refl _)
    have h2 := mem_le_sum _ _ (List.mem_map.2 ⟨s, hs, rfl⟩ : s.data.length ∈ (setsM (canonM (l.filter (belM o t)))).map fun s => s.data.length)
    have h3 := canonM_length (l.filter (belM o t))
    have h4 := List.length_filter_le (belM o t) l
    show s.data.length ≤ l.length
    omega
def GluePost (w : World) (ds : List Dat) (e : Ending) (w' : World) : Prop := ∃ v css, e = .returned v ∧ SlK w' v css ∧ Dts w' css ds ∧ Below w.heap.size w w'
theorem DRow.one {W : World} {base : Nat} {vn vu vt vr : Value} {d : Dat} (h : DRow W base vn vu vt vr d) : vn.oneCell' = true ∧ vu.oneCell' = true ∧ vt.oneCell' = true ∧ vr.oneCell' = true := by
  obtain ⟨⟨vs, k1, k2, k3⟩, i1, i2, i3⟩ := h
  obtain ⟨_, _, rfl⟩ := k1.shape; obtain ⟨_, _, rfl⟩ := i1.shape; obtain ⟨_, _, rfl⟩ := i2.shape; obtain ⟨_, _, rfl⟩ := i3.shape
  exact ⟨rfl, rfl, rfl, rfl⟩
end Go.Proofs.Ytckammgnmgkieaa

/-
  law5.Of: a record as the document's.
-/
namespace Go.Proofs.Ytckammgnmgkieaa
set_option maxRecDepth 20000
open Go.RowKit Go.Shelf
set_option maxRecDepth 20000
set_option linter.unusedVariables false
set_option linter.unusedSimpArgs false

/-- A record as the document's: its names' row is its own, all else lies where it lay at w0. -/
def OfR (w0 W : World) (base : Nat) (cs : List Value) (r : Rc) : Prop :=
  ∃ vo vn vu vt vr, ∃ ss : List SlV, cs = [vo, .int .u32 (r.ttl : Int), .int .i64 r.data.ty, vn, vu, vt, vr] ∧ NmAt w0 vo r.owner ∧ OwnG 22 slEnc W base vn ss ∧ ss.length = r.data.names.length ∧
    (∀ j (h1 : j < ss.length) (h2 : j < r.data.names.length), NmAt w0 (slEnc ss[j]) r.data.names[j]) ∧ SlAt w0 vu (r.data.nums.map u32V) ∧ NmAt w0 vt r.data.texts ∧ SlAt w0 vr (r.data.raw.map bv)
theorem OfR.rcAt {w0 W : World} {base : Nat} {cs : List Value} {r : Rc} (h : OfR w0 W base cs r) (hb : Below w0.heap.size w0 W) : RcAt W cs r := by
  obtain ⟨vo, vn, vu, vt, vr, ss, e, h1, h2, h3, h4, h5, h6, h7⟩ := h
  exact ⟨vo, vn, vu, vt, vr, e, h1.below hb, _, _, _, _, rfl, ⟨ss.map slEnc, SlAt.of_own h2, by rw [List.length_map]; exact h3, fun j hj => by rw [List.getElem_map]; exact (h4 j (by simpa using hj) (by rw [List.length_map] at hj; omega)).below hb⟩, h5.below hb, h6.below hb, h7.below hb⟩
theorem OfR.below {w0 W W' : World} {base : Nat} {cs : List Value} {r : Rc} (h : OfR w0 W base cs r) (hb : Below W.heap.size W W') : OfR w0 W' base cs r := by
  obtain ⟨vo, vn, vu, vt, vr, ss, e, h1, h2, h3⟩ := h
  exact ⟨vo, vn, vu, vt, vr, ss, e, h1, h2.below hb, h3⟩
theorem OfR.weaken {w0 W : World} {base b2 : Nat} {cs : List Value} {r : Rc} (h : OfR w0 W base cs r) (hb : b2 ≤ base) : OfR w0 W b2 cs r := by
  obtain ⟨vo, vn, vu, vt, vr, ss, e, h1, h2, h3⟩ := h
  exact ⟨vo, vn, vu, vt, vr, ss, e, h1, h2.weaken hb, h3⟩
theorem OfR.keptB {w0 W : World} {base : Nat} {cs : List Value} {r : Rc} (h : OfR w0 W base cs r) {B : Nat} {xs : Array Value} {T : TypeId} (hB : W.heap[B]? = some (.cells xs T)) (hT : T ≠ 22) (j : Nat) (u : Value) : OfR w0 (W.setCell ⟨B, j, none⟩ u) base cs r := by
  obtain ⟨vo, vn, vu, vt, vr, ss, e, h1, h2, h3⟩ := h
  exact ⟨vo, vn, vu, vt, vr, ss, e, h1, h2.keptB hB hT j u, h3⟩
theorem OfR.grown {w0 W W' : World} {base base' k : Nat} {T : TypeId} {cs : List Value} {r : Rc} {v' : Value} {yss : List (List Value)} (h : OfR w0 W base cs r) (h' : OwnC k T W base' v' yss) (hT : 22 ≠ T) (hg : W.grownBy W' v'.ownBlock) : OfR w0 W' base cs r := by
  obtain ⟨vo, vn, vu, vt, vr, ss, e, h1, h2, h3⟩ := h
  exact ⟨vo, vn, vu, vt, vr, ss, e, h1, h2.kept_c h' hT hg, h3⟩
theorem results_ref {fn : Func} {t : Tmp} (h : fn.results = #[.cell t 53]) (tmps : Array Value) (W : World) {a : Nat} {x0 x1 x2 x3 x4 x5 x6 : Value}
    (ht : tmps.getD t undef = .pointer (some ⟨a, 0, none⟩)) (hb : W.heap[a]? = some (.cells #[x0, x1, x2, x3, x4, x5, x6] 53)) : (results fn tmps).run Try.prog W = .ok (.agg #[x0, x1, x2, x3, x4, x5, x6]) W := by
  have ht' : tmps[t]?.getD undef = .pointer (some ⟨a, 0, none⟩) := by rw [← ht]; simp
  have hu : ∀ w, Sem.run Try.prog (underlying 53) w = .ok _ w := run_underlying Try.underlying53
  have y0 := kcell hb 0 _ rfl; have y1 := kcell hb 1 _ rfl; have y2 := kcell hb 2 _ rfl; have y3 := kcell hb 3 _ rfl; have y4 := kcell hb 4 _ rfl; have y5 := kcell hb 5 _ rfl; have y6 := kcell hb 6 _ rfl
  simp [results, h, ht', loadVar, asAddr, go_sem, hu, y0, y1, y2, y3, y4, y5, y6, isAgg]

/-- The two boxes. -/
structure OfB (w : World) (v0 v1 v2 v3 v4 v5 v6 : Value) (W : World) : Prop where
  p : W.heap[w.heap.size]? = some (.cells #[v0, v1, v2, v3, v4, v5, v6] 33)
  q : ∃ cs, W.heap[w.heap.size + 1]? = some (.cells cs 53) ∧ cs.size = 7
  below : Below w.heap.size w W
theorem OfB.keep {w W W' : World} {v0 v1 v2 v3 v4 v5 v6 : Value} (h : OfB w v0 v1 v2 v3 v4 v5 v6 W) (hb : Below W.heap.size W W') : OfB w v0 v1 v2 v3 v4 v5 v6 W' := by
  obtain ⟨cs, hq, hs⟩ := h.q
  exact ⟨(hb.block _ (kblock_lt h.p)).trans h.p, ⟨cs, (hb.block _ (kblock_lt hq)).trans hq, hs⟩, h.below.trans (hb.mono h.below.size)⟩
theorem OfB.put {w W : World} {v0 v1 v2 v3 v4 v5 v6 : Value} (h : OfB w v0 v1 v2 v3 v4 v5 v6 W) (j : Nat) (u : Value) : OfB w v0 v1 v2 v3 v4 v5 v6 (W.setCell ⟨w.heap.size + 1, j, none⟩ u) := by
  obtain ⟨cs, hq, hs⟩ := h.q
  exact ⟨((grownBy_set W _ j u).block _ (kblock_lt h.p) (by simp)).trans h.p, ⟨_, block_set hq j u, by simp [hs]⟩, h.below.setCell (p := ⟨w.heap.size + 1, j, none⟩) (by simp) u⟩
def OfSS (w : World) (v0 v1 v2 v3 v4 v5 v6 : Value) (W : World) : Prop :=
  W.cell? ⟨w.heap.size, 0, none⟩ = some v0 ∧ W.cell? ⟨w.heap.size, 1, none⟩ = some v1 ∧ W.cell? ⟨w.heap.size, 2, none⟩ = some v2 ∧ W.cell? ⟨w.heap.size, 3, none⟩ = some v3 ∧ W.cell? ⟨w.heap.size, 4, none⟩ = some v4 ∧ W.cell? ⟨w.heap.size, 5, none⟩ = some v5 ∧ W.cell? ⟨w.heap.size, 6, none⟩ = some v6 ∧ OfB w v0 v1 v2 v3 v4 v5 v6 W
theorem OfB.ss {w W : World} {v0 v1 v2 v3 v4 v5 v6 : Value} (h : OfB w v0 v1 v2 v3 v4 v5 v6 W) : OfSS w v0 v1 v2 v3 v4 v5 v6 W :=
  ⟨kcell h.p 0 _ rfl, kcell h.p 1 _ rfl, kcell h.p 2 _ rfl, kcell h.p 3 _ rfl, kcell h.p 4 _ rfl, kcell h.p 5 _ rfl, kcell h.p 6 _ rfl, h⟩
theorem OfSS.b {w W : World} {v0 v1 v2 v3 v4 v5 v6 : Value} (h : OfSS w v0 v1 v2 v3 v4 v5 v6 W) : OfB w v0 v1 v2 v3 v4 v5 v6 W := h.2.2.2.2.2.2.2

def Of5Post (w0 w : World) (r : Rc) (e : Ending) (w' : World) : Prop := ∃ cs, e = .returned (.agg cs.toArray) ∧ OfR w0 w' w.heap.size cs r ∧ Below w.heap.size w w'
set_option maxRecDepth 100000 in
set_option maxHeartbeats 16000000 in
theorem law5_Of (w0 : World) (cs : List Value) (r : Rc) (w : World) (hA : RcAt w0 cs r) (hwz : Below w0.heap.size w0 w) (hk : r.data.names.length ≤ 1048576) :
    Calls Try.prog 16 #[.agg cs.toArray] w (Of5Post w0 w r) := by
  have hsh := hA.shape
  obtain ⟨vo, vn, vu, vt, vr, rfl, a1, a2⟩ := hA
  have hOf := fun W (hb : Below w.heap.size w W) => law4_OfS w0 _ r.data W a2 (hwz.trans (hb.mono hwz.size)) hk
  have HA1 := Lib.hid a1
  obtain ⟨⟨p0, q0, k0⟩, ⟨p3, q3, k3⟩, ⟨p4, q4, k4⟩, ⟨p5, q5, k5⟩, ⟨p6, q6, k6⟩, e0⟩ := hsh
  simp only [List.cons.injEq, and_true, true_and] at e0
  obtain ⟨rfl, rfl, rfl, rfl, rfl⟩ := e0
  have hX0 : OfB w (.slice p0 q0 k0) (.int .u32 (r.ttl : Int)) (.int .i64 r.data.ty) (.slice p3 q3 k3) (.slice p4 q4 k4) (.slice p5 q5 k5) (.slice p6 q6 k6) ((w.alloc (.cells #[.slice p0 q0 k0, .int .u32 (r.ttl : Int), .int .i64 r.data.ty, .slice p3 q3 k3, .slice p4 q4 k4, .slice p5 q5 k5, .slice p6 q6 k6] 33)).alloc (.cells #[.slice none 0 0, .int .u32 0, .int .i64 0, .slice none 0 0, .slice none 0 0, .slice none 0 0, .slice none 0 0] 53)) := by
    refine ⟨(Below.heap_alloc _ _ _ (by simp)).trans (knew w _), ⟨#[.slice none 0 0, .int .u32 0, .int .i64 0, .slice none 0 0, .slice none 0 0, .slice none 0 0, .slice none 0 0], ?_, rfl⟩, ((Below.refl _ w).alloc (Nat.le_refl _) _).alloc (by simp) _⟩
    have := knew (w.alloc (.cells #[.slice p0 q0 k0, .int .u32 (r.ttl : Int), .int .i64 r.data.ty, .slice p3 q3 k3, .slice p4 q4 k4, .slice p5 q5 k5, .slice p6 q6 k6] 33)) (.cells #[.slice none 0 0, .int .u32 0, .int .i64 0, .slice none 0 0, .slice none 0 0, .slice none 0 0, .slice none 0 0] 53)
    rw [World.size_alloc] at this
    exact this
  have hS0 := hX0.ss
  have HOF := Lib.hid (fun (W : World) (h : OfSS w (.slice p0 q0 k0) (.int .u32 (r.ttl : Int)) (.int .i64 r.data.ty) (.slice p3 q3 k3) (.slice p4 q4 k4) (.slice p5 q5 k5) (.slice p6 q6 k6) W) => hOf W h.b.below)
  have KS := Lib.hid (fun (W W' : World) (h : OfSS w (.slice p0 q0 k0) (.int .u32 (r.ttl : Int)) (.int .i64 r.data.ty) (.slice p3 q3 k3) (.slice p4 q4 k4) (.slice p5 q5 k5) (.slice p6 q6 k6) W) (hb : Below W.heap.size W W') => (h.b.keep hb).ss)
  have KD := Lib.hid (fun (W : World) (h : OfSS w (.slice p0 q0 k0) (.int .u32 (r.ttl : Int)) (.int .i64 r.data.ty) (.slice p3 q3 k3) (.slice p4 q4 k4) (.slice p5 q5 k5) (.slice p6 q6 k6) W) => (h.b.keep (W' := W.drew) ⟨rfl, rfl, rfl, Nat.le_refl _, fun _ _ => rfl⟩).ss)
  have KP := Lib.hid (fun (W : World) (y0 y1 y2 y3 y4 y5 y6 : Value) (h : OfSS w (.slice p0 q0 k0) (.int .u32 (r.ttl : Int)) (.int .i64 r.data.ty) (.slice p3 q3 k3) (.slice p4 q4 k4) (.slice p5 q5 k5) (.slice p6 q6 k6) W) => (((((((h.b.put 0 y0).put 1 y1).put 2 y2).put 3 y3).put 4 y4).put 5 y5).put 6 y6).ss)
  unfold OfSS at hS0 HOF KS KD KP
  have HS0 := Lib.hid hS0
  clear hOf hX0 a1 a2 hk hwz hS0
  go_enter Try.func16, Try.ntmps16
  go_wp2_with fail
  generalize ((w.alloc (.cells #[.slice p0 q0 k0, .int .u32 (r.ttl : Int), .int .i64 r.data.ty, .slice p3 q3 k3, .slice p4 q4 k4, .slice p5 q5 k5, .slice p6 q6 k6] 33)).alloc (.cells #[.slice none 0 0, .int .u32 0, .int .i64 0, .slice none 0 0, .slice none 0 0, .slice none 0 0, .slice none 0 0] 53)) = W0 at *
  have hS0 := HS0.out
  go_region_held3 (fun W => W.cell? ⟨w.heap.size, 0, none⟩ = some (.slice p0 q0 k0) ∧ W.cell? ⟨w.heap.size, 1, none⟩ = some (.int .u32 (r.ttl : Int)) ∧ W.cell? ⟨w.heap.size, 2, none⟩ = some (.int .i64 r.data.ty) ∧ W.cell? ⟨w.heap.size, 3, none⟩ = some (.slice p3 q3 k3) ∧ W.cell? ⟨w.heap.size, 4, none⟩ = some (.slice p4 q4 k4) ∧ W.cell? ⟨w.heap.size, 5, none⟩ = some (.slice p5 q5 k5) ∧ W.cell? ⟨w.heap.size, 6, none⟩ = some (.slice p6 q6 k6) ∧ OfB w (.slice p0 q0 k0) (.int .u32 (r.ttl : Int)) (.int .i64 r.data.ty) (.slice p3 q3 k3) (.slice p4 q4 k4) (.slice p5 q5 k5) (.slice p6 q6 k6) W)
    (first | with_reducible assumption | (with_reducible exact KD.out _ (by with_reducible assumption)) | (with_reducible exact KP.out _ _ _ _ _ _ _ _ (by with_reducible assumption)))
    (first | ((with_reducible refine (HOF.out _ (by with_reducible assumption)).mono ?_); rintro e w7 ⟨_, vn', _, _, _, ss, e5, rfl, h1, h2, h3, h4, h5, h6, hb7⟩; injection e5 with e5; injection e5 with e5; simp only [List.cons.injEq, and_true, true_and] at e5; obtain ⟨rfl, rfl, rfl, rfl⟩ := e5; obtain ⟨a9, c9, rfl⟩ := h1.shape; have hS2 := KS.out _ _ (by with_reducible assumption) hb7; have hq7 := hS2.2.2.2.2.2.2.2.q; obtain ⟨cs7, hq7, hs7⟩ := hq7; obtain ⟨y0, y1, y2, y3, y4, y5, y6, rfl⟩ := arr7 hs7; have fz0 := kfrozen hq7 0; have cl0 := kcell hq7 0 _ rfl; have fz1 := kfrozen hq7 1; have cl1 := kcell hq7 1 _ rfl; have fz2 := kfrozen hq7 2; have cl2 := kcell hq7 2 _ rfl; have fz3 := kfrozen hq7 3; have cl3 := kcell hq7 3 _ rfl; have fz4 := kfrozen hq7 4; have cl4 := kcell hq7 4 _ rfl; have fz5 := kfrozen hq7 5; have cl5 := kcell hq7 5 _ rfl; have fz6 := kfrozen hq7 6; have cl6 := kcell hq7 6 _ rfl; have HH := Lib.hid (And.intro h1 (And.intro h2 (And.intro h3 (And.intro h4 (And.intro h5 h6))))); clear h1 h2 h3 h4 h5 h6))
  all_goals
    go_wp2_with fail
    have HS7 := hS2.2.2.2.2.2.2.2
    have hsz : w.heap.size ≤ W0.heap.size := hS0.2.2.2.2.2.2.2.below.size
    obtain ⟨h1, h2, h3, h4, h5, h6⟩ := HH.out
    have hof : OfR w0 w7 w.heap.size [.slice p0 q0 k0, .int .u32 (r.ttl : Int), .int .i64 r.data.ty, .slice a9 ss.length c9, .slice p4 q4 k4, .slice p5 q5 k5, .slice p6 q6 k6] r := ⟨_, _, _, _, _, ss, rfl, HA1.out, h1.weaken hsz, h2, h3, h4, h5, h6⟩
    have hb_0 := block_set hq7 0 (.slice p0 q0 k0)
    have ho_0 := hof.keptB hq7 (by decide) 0 (.slice p0 q0 k0)
    have hb_1 := block_set hb_0 1 (.int .u32 (r.ttl : Int))
    have ho_1 := ho_0.keptB hb_0 (by decide) 1 (.int .u32 (r.ttl : Int))
    have hb_2 := block_set hb_1 2 (.int .i64 r.data.ty)
    have ho_2 := ho_1.keptB hb_1 (by decide) 2 (.int .i64 r.data.ty)
    have hb_3 := block_set hb_2 3 (.slice a9 ss.length c9)
    have ho_3 := ho_2.keptB hb_2 (by decide) 3 (.slice a9 ss.length c9)
    have hb_4 := block_set hb_3 4 (.slice p4 q4 k4)
    have ho_4 := ho_3.keptB hb_3 (by decide) 4 (.slice p4 q4 k4)
    have hb_5 := block_set hb_4 5 (.slice p5 q5 k5)
    have ho_5 := ho_4.keptB hb_4 (by decide) 5 (.slice p5 q5 k5)
    have hb_6 := block_set hb_5 6 (.slice p6 q6 k6)
    have ho_6 := ho_5.keptB hb_5 (by decide) 6 (.slice p6 q6 k6)
    have hsN := (((((((HS7.put 0 (.slice p0 q0 k0)).put 1 (.int .u32 (r.ttl : Int))).put 2 (.int .i64 r.data.ty)).put 3 (.slice a9 ss.length c9)).put 4 (.slice p4 q4 k4)).put 5 (.slice p5 q5 k5)).put 6 (.slice p6 q6 k6))
    have hqN : (_ : World).heap[w.heap.size + 1]? = some (.cells #[.slice p0 q0 k0, .int .u32 (r.ttl : Int), .int .i64 r.data.ty, .slice a9 ss.length c9, .slice p4 q4 k4, .slice p5 q5 k5, .slice p6 q6 k6] 53) := hb_6
    refine bodyPost_ret (results_ref rfl _ _ rfl hqN) rfl ?_
    exact ⟨[.slice p0 q0 k0, .int .u32 (r.ttl : Int), .int .i64 r.data.ty, .slice a9 ss.length c9, .slice p4 q4 k4, .slice p5 q5 k5, .slice p6 q6 k6], rfl, ho_6, hsN.below⟩
end Go.Proofs.Ytckammgnmgkieaa

/-
  law5.Few: are records few, and short.
-/
namespace Go.Proofs.Ytckammgnmgkieaa
set_option maxRecDepth 20000
open Go.RowKit Go.Shelf
set_option maxRecDepth 20000
set_option linter.unusedVariables false
set_option linter.unusedSimpArgs false

/-- A record among a law's arguments. -/
def RcArg (W : World) (cs : List Value) (r : Rc) : Prop :=
  ∃ vo vn vu vt vr, cs = [vo, .int .u32 (r.ttl : Int), .int .i64 r.data.ty, vn, vu, vt, vr] ∧ NmArg W vo r.owner ∧ DatArg W (.agg #[.int .i64 r.data.ty, vn, vu, vt, vr]) r.data ∧ r.ttl < 2 ^ 32
theorem RcArg.rcAt {W : World} {cs : List Value} {r : Rc} (h : RcArg W cs r) : RcAt W cs r := by
  obtain ⟨vo, vn, vu, vt, vr, e, h1, h2, _⟩ := h
  exact ⟨vo, vn, vu, vt, vr, e, h1.1, h2.1⟩
def fewR (r : Rc) : Bool := fewN r.owner && fewD r.data
theorem RcArg.ok {W : World} {cs : List Value} {r : Rc} (h : RcArg W cs r) (hf : fewR r = true) : RcOK r := by
  obtain ⟨vo, vn, vu, vt, vr, e, h1, h2, h3⟩ := h
  simp only [fewR, Bool.and_eq_true] at hf
  exact ⟨fewN_ok hf.1, h3, fewD_ok h2 hf.2⟩
def fewRs (l : List Rc) : Bool := decide (l.length ≤ 60) && l.all fewR
theorem all_step {l : List Rc} {k : Nat} (h : k < l.length) : (l.drop k).all fewR = (fewR l[k] && (l.drop (k + 1)).all fewR) := by
  rw [List.drop_eq_getElem_cons h]; rfl

set_option maxRecDepth 100000 in
set_option maxHeartbeats 8000000 in
theorem law5_Few (v : Value) (css : List (List Value)) (l : List Rc) (w0 w : World) (hA : SlK w0 v css) (hR : css.length = l.length ∧ ∀ i (h1 : i < css.length) (h2 : i < l.length), RcArg w0 css[i] l[i]) (hwz : Below w0.heap.size w0 w) :
    Calls Try.prog 14 #[v] w fun e w' => e = .returned (.bool (fewRs l)) ∧ Below w.heap.size w w' := by
  obtain ⟨a, c, rfl, hc1, -, -⟩ := id hA
  obtain ⟨n, hn⟩ : ∃ n, css.length = n := ⟨_, rfl⟩
  rw [hn] at hA hc1 ⊢
  have HA := Lib.hid hA; have HR := Lib.hid hR; have HWZ := Lib.hid hwz; have HLN := Lib.hid hn
  have HLL := Lib.hid (show l.length = n by rw [← hn]; exact hR.1.symm)
  obtain ⟨res, hres⟩ : ∃ r, fewRs l = r := ⟨_, rfl⟩
  rw [hres]
  have HRES := Lib.hid hres
  clear hA hR hwz hn hres
  by_cases h60 : 60 < n
  · have h60z : (60 : Int) < (n : Int) := by omega
    have HE : Hid (res = false) := Lib.hid (by
      rw [← HRES.out]; unfold fewRs
      rw [decide_eq_false (by have := HLL.out; omega)]; rfl)
    go_enter Try.func14, Try.ntmps14
    go_wp2
    go_ret
    exact ⟨by rw [HE.out]; rfl, Below.refl _ _⟩
  · have h60z : ¬ (60 : Int) < (n : Int) := by omega
    have HE0 : Hid (res = l.all fewR) := Lib.hid (by
      rw [← HRES.out]; unfold fewRs
      rw [decide_eq_true (by have := HLL.out; omega)]; rfl)
    go_enter Try.func14, Try.ntmps14
    go_wp2
    go_loopw [3] (fun vi wr => ∃ (k : Nat), vi = .int .i64 k ∧ k ≤ n ∧ Hid (res = (l.drop k).all fewR) ∧ Hid (Below w.heap.size w wr)) (fun vi _ => n - (intOf vi).toNat)
    case atStart => exact ⟨0, rfl, Nat.zero_le _, Lib.hid HE0.out, Lib.hid (Below.refl _ _)⟩
    case round =>
      obtain ⟨k, rfl, hk, HC, HB⟩ := hrel
      by_cases hlt : k < n
      · have hltz : (k : Int) < (n : Int) := by omega
        have hk1 : k < css.length := by have := HLN.out; omega
        have hk2 : k < l.length := by have := HLL.out; omega
        have hck : ∀ cs ∈ css, cs.length = 7 := fun cs hc => by
          obtain ⟨i, hi, rfl⟩ := List.mem_iff_getElem.1 hc
          exact (HR.out.2 i hi (by have := HR.out.1; omega)).rcAt.len
        obtain ⟨b, off, rfl, hb, hel⟩ := HA.out.elem hck (by omega)
        have hbz : Below w0.heap.size w0 wr := HWZ.out.trans (HB.out.mono HWZ.out.size)
        have h0 := HR.out.2 k hk1 hk2
        have hst := all_step hk2
        obtain ⟨r, hr⟩ : ∃ r, l[k]'hk2 = r := ⟨_, rfl⟩
        rw [hr] at h0 hst
        clear hr
        obtain ⟨⟨p0, q0, r0⟩, ⟨p3, q3, r3⟩, ⟨p4, q4, r4⟩, ⟨p5, q5, r5⟩, ⟨p6, q6, r6⟩, e0⟩ := h0.rcAt.shape
        simp only at e0
        obtain ⟨c0, c1, c2, c3, c4, c5, c6⟩ := hel k hk1 _ _ _ _ _ _ _ e0 wr hbz
        have HEL := Lib.hid (fun W hb => hel k hk1 _ _ _ _ _ _ _ e0 W hb)
        rw [e0] at h0
        obtain ⟨_, _, _, _, _, e5, g1, g2, _⟩ := h0
        simp only [List.cons.injEq, and_true, true_and] at e5
        obtain ⟨rfl, rfl, rfl, rfl, rfl⟩ := e5
        obtain ⟨fn1, hf1⟩ : ∃ b, fewN r.owner = b := ⟨_, rfl⟩
        obtain ⟨fn2, hf2⟩ : ∃ b, fewD r.data = b := ⟨_, rfl⟩
        have hkf := kn_Few _ r.owner _ hf1 w0 wr g1 (g1.1.below hbz)
        have HDF := Lib.hid (fun W (hb : Below w0.heap.size w0 W) => law4_Few _ r.data W ⟨g2.1.below hb, g2.2⟩)
        rw [hf2] at HDF
        have HC2 : Hid (res = ((fn1 && fn2) && (l.drop (k + 1)).all fewR)) := Lib.hid (by rw [HC.out, hst]; unfold fewR; rw [hf1, hf2])
        have HBZ := Lib.hid hbz
        clear hst hf1 hf2 g1 g2 hbz hel e0 hck HC hk1 hk2
        cases fn1
        · have HE : Hid (res = false) := Lib.hid (by rw [HC2.out]; rfl)
          clear HC2
          go_wp2_with fail
          refine hkf.mono ?_
          rintro e w2 ⟨rfl, hb2⟩
          have HB2 := Lib.hid (HB.out.trans (hb2.mono HB.out.size))
          clear hb2 hkf
          go_wp2
          go_ret
          exact ⟨by rw [HE.out]; rfl, HB2.out⟩
        · go_wp2_with fail
          refine hkf.mono ?_
          rintro e w2 ⟨rfl, hb2⟩
          have HB2 := Lib.hid (HB.out.trans (hb2.mono HB.out.size))
          have hb0 : Below w0.heap.size w0 w2 := HBZ.out.trans (hb2.mono HBZ.out.size)
          obtain ⟨d0, d1, d2, d3, d4, d5, d6⟩ := HEL.out w2 hb0
          have hdf := HDF.out w2 hb0
          clear hb2 hkf hb0 c0 c1 c2 c3 c4 c5 c6 HEL HDF
          go_wp2_with fail
          refine hdf.mono ?_
          rintro e w3 ⟨rfl, hb3⟩
          have HB3 := Lib.hid (HB2.out.trans (hb3.mono HB2.out.size))
          clear hb3 hdf d0 d1 d2 d3 d4 d5 d6
          cases fn2
          · have HE : Hid (res = false) := Lib.hid (by rw [HC2.out]; rfl)
            clear HC2
            go_wp2
            go_ret
            exact ⟨by rw [HE.out]; rfl, HB3.out⟩
          · have HE : Hid (res = (l.drop (k + 1)).all fewR) := Lib.hid (by rw [HC2.out]; rfl)
            clear HC2
            go_wp2
            go_roundw
            case measure => simp [intOf]; omega
            case rel => exact ⟨k + 1, by go_num, by omega, HE, HB3⟩
      · obtain rfl : k = n := by omega
        have HE : Hid (res = true) := Lib.hid (by
          rw [HC.out, List.drop_of_length_le (by have := HLL.out; omega)]; rfl)
        clear HC
        go_wp2
        go_ret
        exact ⟨by rw [HE.out]; rfl, HB.out⟩
end Go.Proofs.Ytckammgnmgkieaa

/-
  rec.Check; the closure of rec.SameRow.
-/
namespace Go.Proofs.Ytckammgnmgkieaa
set_option maxRecDepth 20000
open Go.RowKit Go.Shelf
set_option maxRecDepth 20000
set_option linter.unusedVariables false
set_option linter.unusedSimpArgs false

/-- P501's Check. -/
def checkR (r : Rc) : Int := if checkN r.owner ≠ 0 then checkN r.owner else if 2147483647 < r.ttl then 7 else checkD r.data

/-- Alike with their TTLs. -/
def twinR (a b : Rc) : Bool := decide (a.ttl = b.ttl) && sameR a b
end Go.Proofs.Ytckammgnmgkieaa

