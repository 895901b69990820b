/-
  law4.DataFolds: true for any data. (Written by wip/tools/gen14.py.)
-/
import Derived.Test.YtkjmghnbcnbdbaaGreatDoorMQ10
import Derived.Test.YtkjmghnbcnbdbaaGreatDoorDatFoldP
import Derived.Test.YtkjmghnbcnbdbaaGreatDoorApp2
namespace Go.Proofs.YtkjmghnbcnbdbaaGreatDoor
open Go.RowKit Go.Shelf
set_option maxRecDepth 20000
theorem ownNms_push {W W' : World} {base k : Nat} {a : Option Addr} {c : Nat} {v' : Value} {ns : List Nm} {n : Nm} {qa : Option Addr} {m qc : Nat} {vs : List SlV}
    (hv1 : OwnG 42 slEnc W base (.slice a k c) vs) (hv2 : vs.length = ns.length) (hv3 : ∀ j (h1 : j < vs.length) (h2 : j < ns.length), OwnG 9 strV W base (slEnc vs[j]) ns[j])
    (hn : OwnG 9 strV W base (.slice qa m qc) n) (hk : vs.length = k)
    (hown : W'.ownsRow base 42 1 v' (k + 1) (vs.map slEnc ++ [.slice qa m qc])) (hg : W.grownBy W' (Value.slice a k c).ownBlock) : OwnNms W' base v' (ns ++ [n]) := by
  refine ⟨vs ++ [(qa, m, qc)], ?_, by simp [hv2], fun j h1 h2 => ?_⟩
  · unfold OwnG
    rw [List.length_append, List.map_append, hk]
    exact hown
  · by_cases hj : j < vs.length
    · rw [List.getElem_append_left hj, List.getElem_append_left (by omega)]
      exact (hv3 j hj (by omega)).kept2 hv1 (by decide) hg
    · have e : j = vs.length := by simp at h1; omega
      subst e
      have e1 : (vs ++ [((qa, m, qc) : SlV)])[vs.length] = (qa, m, qc) := by simp
      have e2 : (ns ++ [n])[vs.length] = n := by simp [hv2]
      rw [e1, e2]
      exact hn.kept2 hv1 (by decide) hg
theorem foldN_ok {n : Nm} (h : NmOK n) : NmOK (foldN n) :=
  ⟨by rw [foldN, List.length_map]; exact h.1, fun x hx => by unfold foldN at hx; obtain ⟨y, hy, rfl⟩ := List.mem_map.1 hx; rw [foldL_size]; exact h.2 y hy⟩
theorem folded_ok {d : Dat} (h : DatOK d) : DatOK ⟨d.ty, d.names.map foldN, d.nums, d.texts, d.raw⟩ :=
  ⟨h.1, by rw [List.length_map]; exact h.2.1, fun n hn => by obtain ⟨y, hy, rfl⟩ := List.mem_map.1 hn; exact foldN_ok (h.2.2.1 y hy), h.2.2.2.1, h.2.2.2.2.1, h.2.2.2.2.2.1, h.2.2.2.2.2.2⟩
theorem more_ok {d : Dat} (h : DatOK d) (hf : d.texts.length ≤ 40) : DatOK ⟨d.ty, d.names, d.nums, d.texts ++ [[120]], d.raw⟩ :=
  ⟨h.1, h.2.1, h.2.2.1, h.2.2.2.1, h.2.2.2.2.1, ⟨by rw [List.length_append]; simp; omega, fun x hx => by
    rcases List.mem_append.1 hx with e | e
    · exact h.2.2.2.2.2.1.2 x e
    · simp at e; subst e; simp⟩, h.2.2.2.2.2.2⟩

set_option maxRecDepth 100000 in
set_option maxHeartbeats 16000000 in
theorem law4_DataFolds (va : Value) (d : Dat) (w : World) (hA : DatArg w va d) (hT : Tab w) (hM : MaxC w) :
    Calls Tryz.prog 6 #[va] w fun e w' => e = .returned (.bool true) ∧ Below w.heap.size w w' := by
  obtain ⟨a1, c1, a2, c2, a3, c3, a4, c4, rfl, hdA, _⟩ := datV_of _ _ _ _ hA.1 rfl rfl rfl rfl
  obtain ⟨p1, e1⟩ : ∃ n, d.names.length = n := ⟨_, rfl⟩
  obtain ⟨p2, e2⟩ : ∃ n, d.nums.length = n := ⟨_, rfl⟩
  obtain ⟨p3, e3⟩ : ∃ n, d.texts.length = n := ⟨_, rfl⟩
  obtain ⟨p4, e4⟩ : ∃ n, d.raw.length = n := ⟨_, rfl⟩
  rw [e1, e2, e3, e4] at hA hdA ⊢
  have HPA := Lib.hid hA.2
  have HT := Lib.hid hT; have HMx := Lib.hid hM
  have HOA := Lib.hid (show fewD d = true → DatOK d from fewD_ok hA)
  have HL := Lib.hid (And.intro e1 e3)
  have Bz : Below w.heap.size w (w.alloc (.cells #[.int .i64 d.ty, .slice a1 p1 c1, .slice a2 p2 c2, .slice a3 p3 c3, .slice a4 p4 c4] 27)) := (Below.refl _ w).alloc (Nat.le_refl _) _
  have E1 := hdA.alloc (.cells #[.int .i64 d.ty, .slice a1 p1 c1, .slice a2 p2 c2, .slice a3 p3 c3, .slice a4 p4 c4] 27)
  have X1 := Box.new w #[.int .i64 d.ty, .slice a1 p1 c1, .slice a2 p2 c2, .slice a3 p3 c3, .slice a4 p4 c4]
  clear e1 e2 e3 e4 hA hT hM hdA
  go_enter Tryz.func6, Tryz.ntmps6
  go_wp2_with fail
  generalize (w.alloc (.cells #[.int .i64 d.ty, .slice a1 p1 c1, .slice a2 p2 c2, .slice a3 p3 c3, .slice a4 p4 c4] 27)) = W0 at *
  refine (law4_known _ (HT.out.below Bz) (HMx.out.below Bz)).mono ?_
  rintro e wr ⟨rfl, hb⟩
  replace Bz := Bz.trans (hb.mono Bz.size)
  replace X1 := X1.below hb
  replace E1 := E1.below hb
  clear hb
  obtain ⟨x0, x1, x2, x3, x4⟩ := cells5 X1
  go_wp2_with fail
  refine (law4_Few _ d _ ⟨E1, HPA.out⟩).mono ?_
  clear x0 x1 x2 x3 x4
  rintro e wa ⟨rfl, hb⟩
  replace Bz := Bz.trans (hb.mono Bz.size)
  replace X1 := X1.below hb
  replace E1 := E1.below hb
  clear hb
  by_cases hf : fewD d = true
  case neg =>
    have hg : fewD d = false := by simpa using hf
    rw [hg]
    clear hg hf
    obtain ⟨x0, x1, x2, x3, x4⟩ := cells5 X1
    go_wp2_with fail
    go_ret
    exact ⟨rfl, Bz⟩
  rw [hf]
  have HK := Lib.hid (HOA.out hf)
  have HF4 := Lib.hid (show d.texts.length ≤ 40 from by simp only [fewD, Bool.and_eq_true, decide_eq_true_eq] at hf; exact hf.1.2.2.1)
  clear hf
  obtain ⟨x0, x1, x2, x3, x4⟩ := cells5 X1
  go_upto_block 0 with fail
  have l1 := block_lt X1
  have hX2 := Box.new wa #[.int .i64 d.ty, .slice none 0 0, .slice a2 p2 c2, .slice a3 p3 c3, .slice a4 p4 c4]
  have hb2 : Below wa.heap.size wa (wa.alloc (.cells #[.int .i64 d.ty, .slice none 0 0, .slice a2 p2 c2, .slice a3 p3 c3, .slice a4 p4 c4] 27)) := (Below.refl _ wa).alloc (Nat.le_refl _) _
  have HX1 := Lib.hid (X1.below hb2); have HE1 := Lib.hid (E1.below hb2); have HX2 := Lib.hid hX2; have HBz := Lib.hid (Bz.trans (hb2.mono Bz.size)); have HLT := Lib.hid l1
  have HV := Lib.hid hb2; have HE0 := Lib.hid E1
  clear X1 E1 Bz x0 x1 x2 x3 x4 hX2 hb2
  generalize (wa.alloc (.cells #[.int .i64 d.ty, .slice none 0 0, .slice a2 p2 c2, .slice a3 p3 c3, .slice a4 p4 c4] 27)) = V0 at *
  generalize hX : wa.heap.size = X at *
  have HXW := Lib.hid hX
  clear hX
  have HF : Hid (∀ W, Below X V0 W → ∀ j, j < p1 → ∃ n g off, d.names[j]? = some n ∧ a1 = some ⟨g, off, none⟩ ∧ g < X ∧ ∃ pa pn pc, W.cell? ⟨g, off + j, none⟩ = some (.slice pa pn pc) ∧ ∀ W', Below X V0 W' → Calls Tryz.prog 21 #[.slice pa pn pc] W' (CopyPost (foldN n) W')) := Lib.hid (by
    intro W hW j hj
    obtain ⟨vn, vu, vt, vr, e, ⟨vs, s1, sl, s2⟩, _⟩ := HE0.out
    injection e with e
    simp only [Array.mk.injEq, List.cons.injEq] at e
    obtain ⟨-, rfl, -⟩ := e
    have hjn : j < d.names.length := by have := HL.out.1; omega
    have hjv : j < vs.length := by omega
    obtain ⟨g, off, rfl, hg, hc⟩ := s1.cell (Below.refl _ _) j hjv
    rw [HXW.out] at hg
    have hn := s2 j hjv
    obtain ⟨⟨pa, pc, ep, _⟩, _⟩ := id hn
    refine ⟨d.names[j], g, off, List.getElem?_eq_getElem hjn, rfl, hg, pa, d.names[j].length, pc, ?_, fun W' hW' => ?_⟩
    · rw [← ep]; exact ((HV.out.trans hW).cell (p := ⟨g, off + j, none⟩) hg).trans hc
    · rw [← ep]
      have hbw : Below wa.heap.size wa W' := by rw [HXW.out]; exact HV.out.trans hW'
      exact name_Fold _ _ W' (hn.below hbw).1 (HK.out.2.2.1 _ (List.getElem_mem hjn)))
  go_wp2_with fail
  go_loopw [4] (fun i wr => ∃ (k : Nat) (a : Option Addr) (c : Nat), i = .int .i64 k ∧ k ≤ p1 ∧ Hid (OwnNms wr (X + 1) (.slice a k c) ((d.names.take k).map foldN)) ∧ Hid (wr.heap[X]? = some (.cells #[.int .i64 d.ty, .slice a k c, .slice a2 p2 c2, .slice a3 p3 c3, .slice a4 p4 c4] 27)) ∧ Hid (Below X V0 wr)) (fun i _ => p1 - (intOf i).toNat)
  case atStart => exact ⟨0, none, 0, rfl, Nat.zero_le _, Lib.hid (OwnNms.nil _ _), HX2, Lib.hid (Below.refl _ _)⟩
  case round =>
    obtain ⟨k, a, c, rfl, hkn, HOW, HBX, HB⟩ := hrel
    have hdx := (HB.out.block _ (by have := HLT.out; omega)).trans HX1.out
    have hx1 := cell_of_block hdx 1 _ rfl
    have hx3 := cell_of_block HBX.out 1 _ rfl
    have hsz := block_lt HBX.out
    by_cases hlt : k < p1
    · obtain ⟨n, g, off, hn, rfl, hg, pa, pn, pc, hc, hfold⟩ := HF.out wr HB.out k hlt
      have hkl : k < d.names.length := by have := HL.out.1; omega
      have HTK := Lib.hid (show (d.names.take (k + 1)).map foldN = (d.names.take k).map foldN ++ [foldN n] from by
        rw [List.take_add_one, hn]; simp)
      have hfo := hfold wr.drew (below_drew1 HB.out)
      obtain ⟨vs, hv1, hv2, hv3⟩ := HOW.out
      have hvk : vs.length = k := by rw [hv2, List.length_map, List.length_take]; omega
      obtain ⟨m, hm⟩ : ∃ m, (foldN n).length = m := ⟨_, rfl⟩
      have hfo2 : Calls Tryz.prog 21 #[.slice pa pn pc] wr.drew fun e w2 => ∃ qa qc, e = .returned (.slice qa m qc) ∧ Hid (OwnG 9 strV w2 (X + 1) (.slice qa m qc) (foldN n)) ∧ Hid (Below wr.heap.size wr w2) :=
        hfo.mono (by
          rintro e w2 ⟨v2, rfl, ho2, hb2⟩
          obtain ⟨qa, qc, rfl⟩ := ho2.shape
          rw [hm] at ho2 ⊢
          exact ⟨qa, qc, rfl, Lib.hid (ho2.weaken (by show X + 1 ≤ wr.heap.size; omega)), Lib.hid ((below_drew1 (Below.refl wr.heap.size wr)).trans hb2)⟩)
      have HFD := Lib.hid hfo2
      have HAW := Lib.hid (fun (W : World) (hb : Below wr.heap.size wr W) => (show W.cell? ⟨w.heap.size, 1, none⟩ = some (.slice (some ⟨g, off, none⟩) p1 c1) ∧ W.cell? ⟨g, off + k, none⟩ = some (.slice pa pn pc) ∧ W.cell? ⟨X, 1, none⟩ = some (.slice a k c) ∧ W.heap[X]? = some (.cells #[.int .i64 d.ty, .slice a k c, .slice a2 p2 c2, .slice a3 p3 c3, .slice a4 p4 c4] 27) from
        ⟨(hb.cell (p := ⟨w.heap.size, 1, none⟩) (by show w.heap.size < _; have := HLT.out; omega)).trans hx1, (hb.cell (p := ⟨g, off + k, none⟩) (by show g < _; omega)).trans hc, (hb.cell (p := ⟨X, 1, none⟩) hsz).trans hx3, (hb.block X hsz).trans HBX.out⟩))
      have HVW := Lib.hid (fun (W : World) (hb : Below wr.heap.size wr W) => (show OwnG 42 slEnc W (X + 1) (.slice a k c) vs ∧ ∀ j (h1 : j < vs.length) (h2 : j < ((d.names.take k).map foldN).length), OwnG 9 strV W (X + 1) (slEnc vs[j]) ((d.names.take k).map foldN)[j] from ⟨hv1.below hb, fun j h1 h2 => (hv3 j h1 h2).below hb⟩))
      have HVL := Lib.hid (And.intro hv2 hvk)
      have HSZ := Lib.hid (And.intro hsz hlt)
      have hkn1 : (0 : Int) ≤ (k : Int) := by omega
      have hkn2 : (k : Int) < (p1 : Int) := by omega
      obtain ⟨ht0, i0, zz, hi, hz0, hz1, hz2, hzc⟩ := elemNames
      have hk20 : k ≤ 1048576 := by have := HK.out.2.1; omega
      obtain ⟨da1, da2, da3, -⟩ := HAW.out wr.drew (below_drew1 (Below.refl _ _))
      clear hx3 hc hdx hfo hfo2 hfold hv1 hv2 hv3 hn hkl hm hlt hg hvk
      go_wp2_with fail
      go_region_law (first
        | (go_simp; (with_reducible refine (HFD.out).mono ?_); rintro e w2 ⟨qa, qc, rfl, HO2, HB2⟩; have HB2L := Lib.hid ((HB2.out.alloc (show wr.heap.size ≤ w2.heap.size from HB2.out.size) (.cells #[.slice qa m qc] 42))); obtain ⟨-, -, db3, -⟩ := HAW.out w2 HB2.out; obtain ⟨-, -, dc3, dc4⟩ := HAW.out _ HB2L.out; have HBY := Lib.hid dc4; clear dc4; have hv1' := Lib.hid (HVW.out _ HB2L.out).1)
        | (refine step_append_lies _ (by rfl) _ _ _ (by rfl) (X + 1) 42 i0 zz 1 24 ht0 hi hz0 hz1 hz2 hzc (by omega) (.slice a k c) k (vs.map slEnc) (by rfl) (by have h := hv1'.out; unfold OwnG at h; rw [HVL.out.2] at h; exact h)
            ⟨w2.heap.size, 0, none⟩ 1 1 [.slice qa m qc] (by rfl) (by rfl) (World.news_of_block (cs := #[.slice qa m qc]) (t := 42) (fr := (0, 0)) (heap_alloc_new w2 _)) (by simp [Value.oneCell'])
            (by omega) (by unfold maxLen; omega) (by omega) (by have := HSZ.out.1; have := HB2.out.size; simp; omega) (w2.heap.size + 1) (by simp) ?_; intro gg cap w6 hown6 hgrow hat hlt6; have hbx6 := Lib.hid ((hgrow.block X (block_lt HBY.out) (hv1'.out.ne_block HBY.out (by decide))).trans HBY.out); have hc6 := cell_of_block hbx6.out 1 _ rfl; have hf6 := frozen_block hbx6.out 1))
      all_goals
        have HO6 := Lib.hid (show OwnNms (w6.setCell ⟨X, 1, none⟩ (.slice (some ⟨gg, 0, none⟩) (k + 1) cap)) (X + 1) (.slice (some ⟨gg, 0, none⟩) (k + 1) cap) ((d.names.take (k + 1)).map foldN) from by
          rw [HTK.out]
          refine OwnNms.keptB (B := X) ?_ hbx6.out 1 _
          exact ownNms_push hv1'.out HVL.out.1 (HVW.out _ HB2L.out).2 (HO2.out.alloc _) HVL.out.2 hown6 hgrow)
        have HX6 := Lib.hid (show (w6.setCell ⟨X, 1, none⟩ (.slice (some ⟨gg, 0, none⟩) (k + 1) cap)).heap[X]? = some (.cells #[.int .i64 d.ty, .slice (some ⟨gg, 0, none⟩) (k + 1) cap, .slice a2 p2 c2, .slice a3 p3 c3, .slice a4 p4 c4] 27) from block_set hbx6.out 1 _)
        have HB6 := Lib.hid (show Below X V0 (w6.setCell ⟨X, 1, none⟩ (.slice (some ⟨gg, 0, none⟩) (k + 1) cap)) from
          by
          have hb61 : Below X wr (w2.alloc (.cells #[.slice qa m qc] 42)) := HB2L.out.mono (by have := HSZ.out.1; omega)
          have hb62 : Below X wr w6 := hb61.grown hgrow (by have := HB2L.out.size; have := HSZ.out.1; omega) (fun x e => by have := hv1'.out.base_le x e; omega)
          exact HB.out.trans (hb62.setCell (p := ⟨X, 1, none⟩) (Nat.le_refl X) _))
        have hltk := HSZ.out.2
        clear hown6 hgrow hat hlt6 hc6 hf6 da1 da2 da3 db3 dc3
        go_wp2_with fail
        go_roundw
        case rel => exact ⟨k + 1, some ⟨gg, 0, none⟩, cap, by go_num, by omega, HO6, HX6, HB6⟩
        case measure => simp [intOf]; omega
    · obtain rfl : k = p1 := by omega
      have hkn3 : ¬ (k : Int) < (k : Int) := by omega
      have hTA : (d.names.take k).map foldN = d.names.map foldN := by rw [List.take_of_length_le (by rw [HL.out.1]; exact Nat.le_refl _)]
      rw [hTA] at HOW
      obtain ⟨y0, y1, y2, y3, y4⟩ := cells5 hdx
      have hb0 : Below wa.heap.size wa wr := by rw [HXW.out]; exact HV.out.trans HB.out
      have HE := Lib.hid (HE0.out.below hb0)
      have HDX := Lib.hid hdx
      have HBW := Lib.hid (HBz.out.trans (HB.out.mono (by have := HLT.out; omega)))
      have HSZ := Lib.hid hsz
      have hA2 : Below wr.heap.size wr ((wr.alloc (.cells #[.int .i64 d.ty, .slice a1 k c1, .slice a2 p2 c2, .slice a3 p3 c3, .slice a4 p4 c4] 27)).alloc (.cells #[] 9)) := ((Below.refl _ wr).alloc (Nat.le_refl _) _).alloc (by simp) _
      have z3 := (hA2.cell (p := ⟨w.heap.size, 3, none⟩) (by show w.heap.size < _; have := HLT.out; omega)).trans y3
      have hY : ((wr.alloc (.cells #[.int .i64 d.ty, .slice a1 k c1, .slice a2 p2 c2, .slice a3 p3 c3, .slice a4 p4 c4] 27)).alloc (.cells #[] 9)).heap[wr.heap.size]? = some (.cells #[.int .i64 d.ty, .slice a1 k c1, .slice a2 p2 c2, .slice a3 p3 c3, .slice a4 p4 c4] 27) := by
        have e1 := block_new wr (.cells #[.int .i64 d.ty, .slice a1 k c1, .slice a2 p2 c2, .slice a3 p3 c3, .slice a4 p4 c4] 27)
        exact (((Below.refl (wr.heap.size + 1) (wr.alloc (.cells #[.int .i64 d.ty, .slice a1 k c1, .slice a2 p2 c2, .slice a3 p3 c3, .slice a4 p4 c4] 27))).alloc (by simp) (.cells #[] 9)).block _ (Nat.lt_succ_self _)).trans e1
      have hlit := OwnG.lit (T := 9) (enc := strV) (wr.alloc (.cells #[.int .i64 d.ty, .slice a1 k c1, .slice a2 p2 c2, .slice a3 p3 c3, .slice a4 p4 c4] 27)) (wr.heap.size + 1) (by simp) ([] : Nm) (by simp)
      rw [World.size_alloc] at hlit
      have HLIT : Hid (OwnG 9 strV ((wr.alloc (.cells #[.int .i64 d.ty, .slice a1 k c1, .slice a2 p2 c2, .slice a3 p3 c3, .slice a4 p4 c4] 27)).alloc (.cells #[] 9)) (wr.heap.size + 1) (.slice (some ⟨wr.heap.size + 1, 0, none⟩) 0 0) []) := Lib.hid hlit
      have HTX : Hid (NmAt ((wr.alloc (.cells #[.int .i64 d.ty, .slice a1 k c1, .slice a2 p2 c2, .slice a3 p3 c3, .slice a4 p4 c4] 27)).alloc (.cells #[] 9)) (.slice a3 p3 c3) d.texts) := Lib.hid (by
        obtain ⟨vn, vu, vt, vr, e, h1, h2, h3, h4⟩ := HE.out.below hA2
        injection e with e
        simp only [Array.mk.injEq, List.cons.injEq] at e
        obtain ⟨-, -, -, rfl, -⟩ := e
        exact h3)
      have HY := Lib.hid hY
      have HA2 := Lib.hid hA2
      have HXB := HBX
      clear hx3 hdx hsz hTA hb0 hA2 hY hlit
      go_wp2_with (first
        | (at_builtin; refine wpl_append_s2 _ rfl (.tmp 32) (.tmp 34) elemStr elemStr rfl (wr.heap.size + 1) (.slice (some ⟨wr.heap.size + 1, 0, none⟩) 0 0) [] rfl HLIT.out (.slice a3 p3 c3) d.texts rfl HTX.out.1 HTX.out.2 (by simp <;> omega) (by have := HF4.out; unfold maxLen; simp <;> omega) (by have := HF4.out; simp <;> omega) ?_; intro v7 w7 hown7 hg7; rw [List.nil_append] at hown7; obtain ⟨a7, c7, e7⟩ := hown7.shape; rw [HL.out.2] at e7; subst e7; have HOW7 := Lib.hid hown7; have HBY7 := Lib.hid ((hg7.block wr.heap.size (block_lt HY.out) (HLIT.out.ne_block HY.out (by decide))).trans HY.out); have HB7 := Lib.hid (HA2.out.grown hg7 (by simp <;> omega) (fun x e => by have := HLIT.out.base_le x e; omega)); clear hown7 hg7)
        | (at_builtin; refine wpl_append_g w7 rfl (.tmp 35) (.tmp 36) elemStr rfl strV_one (wr.heap.size + 1) (.slice a7 p3 c7) d.texts rfl HOW7.out [.string ⟨#[120]⟩] [[120]] rfl 1 1 rfl rfl (by have := block_lt HBY7.out; omega) (by have := HF4.out; unfold maxLen; simp <;> omega) (by have := HF4.out; simp <;> omega) ?_; intro v8 w8 hown8 hg8; obtain ⟨a8, c8, e8⟩ := hown8.shape; rw [List.length_append, HL.out.2] at e8; simp only [List.length_cons, List.length_nil, Nat.zero_add] at e8; subst e8; have HOW8 := Lib.hid hown8; have HBY8 := Lib.hid ((hg8.block wr.heap.size (block_lt HBY7.out) (HOW7.out.ne_block HBY7.out (by decide))).trans HBY7.out); have HB8 := Lib.hid (HB7.out.grown hg8 HB7.out.size (fun x e => by have := HOW7.out.base_le x e; omega)); have HB9 := Lib.hid (HB8.out.setCell (p := ⟨wr.heap.size, 3, none⟩) (Nat.le_refl _) (.slice a8 (p3 + 1) c8)); have hc8 := cell_of_block HBY8.out 3 _ rfl; have hf8 := frozen_block HBY8.out 3; have HD9 := Lib.hid ((HB9.out.block w.heap.size (by have := HLT.out; have := HSZ.out; omega)).trans HDX.out); have HX9 := Lib.hid ((HB9.out.block X HSZ.out).trans HXB.out); have HY9 := Lib.hid (block_set HBY8.out 3 (.slice a8 (p3 + 1) c8)); have HO9 := Lib.hid (HOW8.out.keptB HBY8.out (by decide) 3 (.slice a8 (p3 + 1) c8)); obtain ⟨q0, q1, q2, q3, q4⟩ := cells5 HD9.out; obtain ⟨r0, r1, r2, r3, r4⟩ := cells5 HX9.out; obtain ⟨s0, s1, s2, s3, s4⟩ := cells5 HY9.out; clear hown8 hg8))
      clear q0 q1 q2 q3 q4 r0 r1 r2 r3 r4 s0 s1 s2 s3 s4 hc8 hf8 hx1 y0 y1 y2 y3 y4 z3
      have ED := HE.out.below HB9.out
      have EX : DatAt (w8.setCell ⟨wr.heap.size, 3, none⟩ (.slice a8 (p3 + 1) c8)) (.agg #[.int .i64 d.ty, .slice a k c, .slice a2 p2 c2, .slice a3 p3 c3, .slice a4 p4 c4]) ⟨d.ty, d.names.map foldN, d.nums, d.texts, d.raw⟩ := by
        obtain ⟨vn, vu, vt, vr, e, h1, h2, h3, h4⟩ := id ED
        injection e with e
        simp only [Array.mk.injEq, List.cons.injEq] at e
        obtain ⟨-, rfl, rfl, rfl, rfl, -⟩ := e
        exact ⟨_, _, _, _, rfl, (HOW.out.below HB9.out).nms, h2, h3, h4⟩
      have EY : DatAt (w8.setCell ⟨wr.heap.size, 3, none⟩ (.slice a8 (p3 + 1) c8)) (.agg #[.int .i64 d.ty, .slice a1 k c1, .slice a2 p2 c2, .slice a8 (p3 + 1) c8, .slice a4 p4 c4]) ⟨d.ty, d.names, d.nums, d.texts ++ [[120]], d.raw⟩ := by
        obtain ⟨vn, vu, vt, vr, e, h1, h2, h3, h4⟩ := id ED
        injection e with e
        simp only [Array.mk.injEq, List.cons.injEq] at e
        obtain ⟨-, rfl, rfl, rfl, rfl, -⟩ := e
        exact ⟨_, _, _, _, rfl, h1, h2, HO9.out.nmAt, h4⟩
      have XD := HD9.out
      have XX := HX9.out
      have XY : (w8.setCell ⟨wr.heap.size, 3, none⟩ (.slice a8 (p3 + 1) c8)).heap[wr.heap.size]? = some (.cells #[.int .i64 d.ty, .slice a1 k c1, .slice a2 p2 c2, .slice a8 (p3 + 1) c8, .slice a4 p4 c4] 27) := HY9.out
      have Bz := HBW.out.trans (HB9.out.mono (by have := HLT.out; have := HSZ.out; omega))
      clear HD9 HX9 HY9 HO9 HBY8 HOW8 HB8 HB9 HBY7 HOW7 HB7 HA2 HY HLIT HTX HF
      generalize (w8.setCell ⟨wr.heap.size, 3, none⟩ (.slice a8 (p3 + 1) c8)) = w9 at *
      have MK := Lib.hid (more_ok HK.out HF4.out)
      have FK := Lib.hid (folded_ok HK.out)
      refine (kn_Same ⟨d.ty, d.names.map foldN, d.nums, d.texts, d.raw⟩ d true (by rw [compareD_folded]; rfl) FK.out HK.out _ _ _ EX ED).mono ?_
      rintro e w10 ⟨rfl, hb⟩
      replace Bz := Bz.trans (hb.mono Bz.size)
      replace ED := ED.below hb
      replace EX := EX.below hb
      replace EY := EY.below hb
      replace XD := (hb.block _ (block_lt XD)).trans XD
      replace XX := (hb.block _ (block_lt XX)).trans XX
      replace XY := (hb.block _ (block_lt XY)).trans XY
      clear hb
      obtain ⟨q0, q1, q2, q3, q4⟩ := cells5 XD
      obtain ⟨r0, r1, r2, r3, r4⟩ := cells5 XX
      obtain ⟨s0, s1, s2, s3, s4⟩ := cells5 XY
      go_wp2_with fail
      refine (kn_Compare ⟨d.ty, d.names.map foldN, d.nums, d.texts, d.raw⟩ d 0 (compareD_folded d) FK.out HK.out _ _ _ EX ED).mono ?_
      clear q0 q1 q2 q3 q4 r0 r1 r2 r3 r4 s0 s1 s2 s3 s4
      rintro e w10 ⟨rfl, hb⟩
      replace Bz := Bz.trans (hb.mono Bz.size)
      replace ED := ED.below hb
      replace EX := EX.below hb
      replace EY := EY.below hb
      replace XD := (hb.block _ (block_lt XD)).trans XD
      replace XX := (hb.block _ (block_lt XX)).trans XX
      replace XY := (hb.block _ (block_lt XY)).trans XY
      clear hb
      obtain ⟨q0, q1, q2, q3, q4⟩ := cells5 XD
      obtain ⟨r0, r1, r2, r3, r4⟩ := cells5 XX
      obtain ⟨s0, s1, s2, s3, s4⟩ := cells5 XY
      go_wp2_with fail
      refine (kn_Same ⟨d.ty, d.names, d.nums, d.texts ++ [[120]], d.raw⟩ d false (by rw [compareD_more']; rfl) MK.out HK.out _ _ _ EY ED).mono ?_
      clear q0 q1 q2 q3 q4 r0 r1 r2 r3 r4 s0 s1 s2 s3 s4
      rintro e w10 ⟨rfl, hb⟩
      replace Bz := Bz.trans (hb.mono Bz.size)
      replace ED := ED.below hb
      replace EX := EX.below hb
      replace EY := EY.below hb
      replace XD := (hb.block _ (block_lt XD)).trans XD
      replace XX := (hb.block _ (block_lt XX)).trans XX
      replace XY := (hb.block _ (block_lt XY)).trans XY
      clear hb
      obtain ⟨q0, q1, q2, q3, q4⟩ := cells5 XD
      obtain ⟨r0, r1, r2, r3, r4⟩ := cells5 XX
      obtain ⟨s0, s1, s2, s3, s4⟩ := cells5 XY
      go_wp2_with fail
      refine (kn_Compare d ⟨d.ty, d.names, d.nums, d.texts ++ [[120]], d.raw⟩ (-1) (compareD_more d _) HK.out MK.out _ _ _ ED EY).mono ?_
      clear q0 q1 q2 q3 q4 r0 r1 r2 r3 r4 s0 s1 s2 s3 s4
      rintro e w10 ⟨rfl, hb⟩
      replace Bz := Bz.trans (hb.mono Bz.size)
      replace ED := ED.below hb
      replace EX := EX.below hb
      replace EY := EY.below hb
      replace XD := (hb.block _ (block_lt XD)).trans XD
      replace XX := (hb.block _ (block_lt XX)).trans XX
      replace XY := (hb.block _ (block_lt XY)).trans XY
      clear hb
      go_wp2_with fail
      go_ret
      exact ⟨rfl, Bz⟩
theorem law4_DataFolds' {W : World} (va : Value) (a : Dat) (hA : DatArg W va a) (w : World) (e : w = W) (hT : Tab w) (hM : MaxC w) :
    Calls Tryz.prog 6 #[va] w fun e w' => e = .returned (.bool true) ∧ Below w.heap.size w w' := by
  subst e; exact law4_DataFolds va a w hA hT hM
end Go.Proofs.YtkjmghnbcnbdbaaGreatDoor
