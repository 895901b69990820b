/-
  law4.DataTwo: true for any two data. (Written by wip/tools/gen13.py.)
-/
import Derived.Test.YtkjmghnbcnbdbaaGreatDoorMQ08
import Derived.Test.YtkjmghnbcnbdbaaGreatDoorMQ09
import Derived.Test.YtkjmghnbcnbdbaaGreatDoorMQ30
namespace Go.Proofs.YtkjmghnbcnbdbaaGreatDoor
open Go.RowKit Go.Shelf
set_option maxRecDepth 20000
theorem DatArg.below {W W' : World} {v : Value} {d : Dat} (h : DatArg W v d) (hb : Below W.heap.size W W') : DatArg W' v d := ⟨h.1.below hb, h.2⟩

set_option maxRecDepth 100000 in
set_option maxHeartbeats 16000000 in
theorem law4_DataTwo (va vb : Value) (a b : Dat) (w : World) (hA : DatArg w va a) (hB : DatArg w vb b) (hT : Tab w) (hM : MaxC w) :
    Calls Tryz.prog 4 #[va, vb] w fun e w' => e = .returned (.bool true) ∧ Below w.heap.size w w' := by
  obtain ⟨a1, c1, a2, c2, a3, c3, a4, c4, rfl, hdA, _⟩ := datV_of _ _ _ _ hA.1 rfl rfl rfl rfl
  obtain ⟨b1, d1, b2, d2, b3, d3, b4, d4, rfl, hdB, _⟩ := datV_of _ _ _ _ hB.1 rfl rfl rfl rfl
  obtain ⟨p1, e1⟩ : ∃ n, a.names.length = n := ⟨_, rfl⟩
  obtain ⟨p2, e2⟩ : ∃ n, a.nums.length = n := ⟨_, rfl⟩
  obtain ⟨p3, e3⟩ : ∃ n, a.texts.length = n := ⟨_, rfl⟩
  obtain ⟨p4, e4⟩ : ∃ n, a.raw.length = n := ⟨_, rfl⟩
  obtain ⟨q1, f1⟩ : ∃ n, b.names.length = n := ⟨_, rfl⟩
  obtain ⟨q2, f2⟩ : ∃ n, b.nums.length = n := ⟨_, rfl⟩
  obtain ⟨q3, f3⟩ : ∃ n, b.texts.length = n := ⟨_, rfl⟩
  obtain ⟨q4, f4⟩ : ∃ n, b.raw.length = n := ⟨_, rfl⟩
  rw [e1, e2, e3, e4] at hA hdA ⊢
  rw [f1, f2, f3, f4] at hB hdB ⊢
  have HPA := Lib.hid hA.2; have HPB := Lib.hid hB.2
  have HT := Lib.hid hT; have HMx := Lib.hid hM
  have hOA : fewD a = true → DatOK a := fewD_ok hA
  have hOB : fewD b = true → DatOK b := fewD_ok hB
  have HOA := Lib.hid hOA; have HOB := Lib.hid hOB
  have Bz : Below w.heap.size w ((w.alloc (.cells #[.int .i64 a.ty, .slice a1 p1 c1, .slice a2 p2 c2, .slice a3 p3 c3, .slice a4 p4 c4] 27)).alloc (.cells #[.int .i64 b.ty, .slice b1 q1 d1, .slice b2 q2 d2, .slice b3 q3 d3, .slice b4 q4 d4] 27)) := ((Below.refl _ w).alloc (Nat.le_refl _) _).alloc (by simp) _
  have E1 := (hdA.alloc (.cells #[.int .i64 a.ty, .slice a1 p1 c1, .slice a2 p2 c2, .slice a3 p3 c3, .slice a4 p4 c4] 27)).alloc (.cells #[.int .i64 b.ty, .slice b1 q1 d1, .slice b2 q2 d2, .slice b3 q3 d3, .slice b4 q4 d4] 27)
  have E2 := (hdB.alloc (.cells #[.int .i64 a.ty, .slice a1 p1 c1, .slice a2 p2 c2, .slice a3 p3 c3, .slice a4 p4 c4] 27)).alloc (.cells #[.int .i64 b.ty, .slice b1 q1 d1, .slice b2 q2 d2, .slice b3 q3 d3, .slice b4 q4 d4] 27)
  have X1 := (Box.new w #[.int .i64 a.ty, .slice a1 p1 c1, .slice a2 p2 c2, .slice a3 p3 c3, .slice a4 p4 c4]).alloc (.cells #[.int .i64 b.ty, .slice b1 q1 d1, .slice b2 q2 d2, .slice b3 q3 d3, .slice b4 q4 d4] 27)
  have X2 := Box.new (w.alloc (.cells #[.int .i64 a.ty, .slice a1 p1 c1, .slice a2 p2 c2, .slice a3 p3 c3, .slice a4 p4 c4] 27)) #[.int .i64 b.ty, .slice b1 q1 d1, .slice b2 q2 d2, .slice b3 q3 d3, .slice b4 q4 d4]
  rw [World.size_alloc] at X2
  clear e1 e2 e3 e4 f1 f2 f3 f4 hA hB hT hM hdA hdB hOA hOB
  go_enter Tryz.func4, Tryz.ntmps4
  go_wp2_with fail
  generalize ((w.alloc (.cells #[.int .i64 a.ty, .slice a1 p1 c1, .slice a2 p2 c2, .slice a3 p3 c3, .slice a4 p4 c4] 27)).alloc (.cells #[.int .i64 b.ty, .slice b1 q1 d1, .slice b2 q2 d2, .slice b3 q3 d3, .slice b4 q4 d4] 27)) = W0 at *
  refine (law4_known _ (HT.out.below Bz) (HMx.out.below Bz)).mono ?_
  rintro e wr ⟨rfl, hb⟩
  replace Bz := Bz.trans (hb.mono Bz.size)
  replace X1 := X1.below hb
  replace E1 := E1.below hb
  replace X2 := X2.below hb
  replace E2 := E2.below hb
  clear hb
  obtain ⟨x10, x11, x12, x13, x14⟩ := cells5 X1
  obtain ⟨x20, x21, x22, x23, x24⟩ := cells5 X2
  go_wp2_with fail
  refine (law4_Few _ a _ ⟨E1, HPA.out⟩).mono ?_
  clear x10 x11 x12 x13 x14 x20 x21 x22 x23 x24
  rintro e wr ⟨rfl, hb⟩
  replace Bz := Bz.trans (hb.mono Bz.size)
  replace X1 := X1.below hb
  replace E1 := E1.below hb
  replace X2 := X2.below hb
  replace E2 := E2.below hb
  clear hb
  by_cases hfa : fewD a = true
  case neg =>
    have hg : fewD a = false := by simpa using hfa
    rw [hg]
    clear hg hfa
    obtain ⟨x10, x11, x12, x13, x14⟩ := cells5 X1
    obtain ⟨x20, x21, x22, x23, x24⟩ := cells5 X2
    go_wp2_with fail
    go_ret
    exact ⟨rfl, Bz⟩
  rw [hfa]
  have HKA := Lib.hid (HOA.out hfa)
  clear hfa
  obtain ⟨x10, x11, x12, x13, x14⟩ := cells5 X1
  obtain ⟨x20, x21, x22, x23, x24⟩ := cells5 X2
  go_wp2_with fail
  refine (law4_Few _ b _ ⟨E2, HPB.out⟩).mono ?_
  clear x10 x11 x12 x13 x14 x20 x21 x22 x23 x24
  rintro e wr ⟨rfl, hb⟩
  replace Bz := Bz.trans (hb.mono Bz.size)
  replace X1 := X1.below hb
  replace E1 := E1.below hb
  replace X2 := X2.below hb
  replace E2 := E2.below hb
  clear hb
  by_cases hfb : fewD b = true
  case neg =>
    have hg : fewD b = false := by simpa using hfb
    rw [hg]
    clear hg hfb
    obtain ⟨x10, x11, x12, x13, x14⟩ := cells5 X1
    obtain ⟨x20, x21, x22, x23, x24⟩ := cells5 X2
    go_wp2_with fail
    go_ret
    exact ⟨rfl, Bz⟩
  rw [hfb]
  have HKB := Lib.hid (HOB.out hfb)
  clear hfb
  obtain ⟨x10, x11, x12, x13, x14⟩ := cells5 X1
  obtain ⟨x20, x21, x22, x23, x24⟩ := cells5 X2
  go_wp2_with fail
  obtain ⟨c, hc⟩ : ∃ c, compareD a b = c := ⟨_, rfl⟩
  have hcr := compareD_range a b
  have hcs := compareD_swap a b
  rw [hc] at hcr hcs
  have l1 := block_lt X1
  have l2 := block_lt X2
  have KS := Lib.hid (fun (W W' : World) (h : (W.cell? ⟨w.heap.size, 0, none⟩ = some (.int .i64 a.ty) ∧ W.cell? ⟨w.heap.size, 1, none⟩ = some (.slice a1 p1 c1) ∧ W.cell? ⟨w.heap.size, 2, none⟩ = some (.slice a2 p2 c2) ∧ W.cell? ⟨w.heap.size, 3, none⟩ = some (.slice a3 p3 c3) ∧ W.cell? ⟨w.heap.size, 4, none⟩ = some (.slice a4 p4 c4) ∧ W.cell? ⟨w.heap.size + 1, 0, none⟩ = some (.int .i64 b.ty) ∧ W.cell? ⟨w.heap.size + 1, 1, none⟩ = some (.slice b1 q1 d1) ∧ W.cell? ⟨w.heap.size + 1, 2, none⟩ = some (.slice b2 q2 d2) ∧ W.cell? ⟨w.heap.size + 1, 3, none⟩ = some (.slice b3 q3 d3) ∧ W.cell? ⟨w.heap.size + 1, 4, none⟩ = some (.slice b4 q4 d4) ∧ Below wr.heap.size wr W)) (hb : Below W.heap.size W W') => (show (W'.cell? ⟨w.heap.size, 0, none⟩ = some (.int .i64 a.ty) ∧ W'.cell? ⟨w.heap.size, 1, none⟩ = some (.slice a1 p1 c1) ∧ W'.cell? ⟨w.heap.size, 2, none⟩ = some (.slice a2 p2 c2) ∧ W'.cell? ⟨w.heap.size, 3, none⟩ = some (.slice a3 p3 c3) ∧ W'.cell? ⟨w.heap.size, 4, none⟩ = some (.slice a4 p4 c4) ∧ W'.cell? ⟨w.heap.size + 1, 0, none⟩ = some (.int .i64 b.ty) ∧ W'.cell? ⟨w.heap.size + 1, 1, none⟩ = some (.slice b1 q1 d1) ∧ W'.cell? ⟨w.heap.size + 1, 2, none⟩ = some (.slice b2 q2 d2) ∧ W'.cell? ⟨w.heap.size + 1, 3, none⟩ = some (.slice b3 q3 d3) ∧ W'.cell? ⟨w.heap.size + 1, 4, none⟩ = some (.slice b4 q4 d4) ∧ Below wr.heap.size wr W') from by
    obtain ⟨h0, h1, h2, h3, h4, h5, h6, h7, h8, h9, h10⟩ := h
    have hz := h10.size
    exact ⟨(hb.cell (p := ⟨w.heap.size, 0, none⟩) (by show w.heap.size < W.heap.size; omega)).trans h0, (hb.cell (p := ⟨w.heap.size, 1, none⟩) (by show w.heap.size < W.heap.size; omega)).trans h1, (hb.cell (p := ⟨w.heap.size, 2, none⟩) (by show w.heap.size < W.heap.size; omega)).trans h2, (hb.cell (p := ⟨w.heap.size, 3, none⟩) (by show w.heap.size < W.heap.size; omega)).trans h3, (hb.cell (p := ⟨w.heap.size, 4, none⟩) (by show w.heap.size < W.heap.size; omega)).trans h4, (hb.cell (p := ⟨w.heap.size + 1, 0, none⟩) (by show w.heap.size + 1 < W.heap.size; omega)).trans h5, (hb.cell (p := ⟨w.heap.size + 1, 1, none⟩) (by show w.heap.size + 1 < W.heap.size; omega)).trans h6, (hb.cell (p := ⟨w.heap.size + 1, 2, none⟩) (by show w.heap.size + 1 < W.heap.size; omega)).trans h7, (hb.cell (p := ⟨w.heap.size + 1, 3, none⟩) (by show w.heap.size + 1 < W.heap.size; omega)).trans h8, (hb.cell (p := ⟨w.heap.size + 1, 4, none⟩) (by show w.heap.size + 1 < W.heap.size; omega)).trans h9, h10.trans (hb.mono hz)⟩))
  have hS0 : (wr.cell? ⟨w.heap.size, 0, none⟩ = some (.int .i64 a.ty) ∧ wr.cell? ⟨w.heap.size, 1, none⟩ = some (.slice a1 p1 c1) ∧ wr.cell? ⟨w.heap.size, 2, none⟩ = some (.slice a2 p2 c2) ∧ wr.cell? ⟨w.heap.size, 3, none⟩ = some (.slice a3 p3 c3) ∧ wr.cell? ⟨w.heap.size, 4, none⟩ = some (.slice a4 p4 c4) ∧ wr.cell? ⟨w.heap.size + 1, 0, none⟩ = some (.int .i64 b.ty) ∧ wr.cell? ⟨w.heap.size + 1, 1, none⟩ = some (.slice b1 q1 d1) ∧ wr.cell? ⟨w.heap.size + 1, 2, none⟩ = some (.slice b2 q2 d2) ∧ wr.cell? ⟨w.heap.size + 1, 3, none⟩ = some (.slice b3 q3 d3) ∧ wr.cell? ⟨w.heap.size + 1, 4, none⟩ = some (.slice b4 q4 d4) ∧ Below wr.heap.size wr wr) := ⟨x10, x11, x12, x13, x14, x20, x21, x22, x23, x24, Below.refl _ _⟩
  have HFA := Lib.hid (fun (W : World) (h : (W.cell? ⟨w.heap.size, 0, none⟩ = some (.int .i64 a.ty) ∧ W.cell? ⟨w.heap.size, 1, none⟩ = some (.slice a1 p1 c1) ∧ W.cell? ⟨w.heap.size, 2, none⟩ = some (.slice a2 p2 c2) ∧ W.cell? ⟨w.heap.size, 3, none⟩ = some (.slice a3 p3 c3) ∧ W.cell? ⟨w.heap.size, 4, none⟩ = some (.slice a4 p4 c4) ∧ W.cell? ⟨w.heap.size + 1, 0, none⟩ = some (.int .i64 b.ty) ∧ W.cell? ⟨w.heap.size + 1, 1, none⟩ = some (.slice b1 q1 d1) ∧ W.cell? ⟨w.heap.size + 1, 2, none⟩ = some (.slice b2 q2 d2) ∧ W.cell? ⟨w.heap.size + 1, 3, none⟩ = some (.slice b3 q3 d3) ∧ W.cell? ⟨w.heap.size + 1, 4, none⟩ = some (.slice b4 q4 d4) ∧ Below wr.heap.size wr W)) => law4_Of (.agg #[.int .i64 a.ty, .slice a1 p1 c1, .slice a2 p2 c2, .slice a3 p3 c3, .slice a4 p4 c4]) a W (E1.below h.2.2.2.2.2.2.2.2.2.2) HKA.out.2.1)
  have HFB := Lib.hid (fun (W : World) (h : (W.cell? ⟨w.heap.size, 0, none⟩ = some (.int .i64 a.ty) ∧ W.cell? ⟨w.heap.size, 1, none⟩ = some (.slice a1 p1 c1) ∧ W.cell? ⟨w.heap.size, 2, none⟩ = some (.slice a2 p2 c2) ∧ W.cell? ⟨w.heap.size, 3, none⟩ = some (.slice a3 p3 c3) ∧ W.cell? ⟨w.heap.size, 4, none⟩ = some (.slice a4 p4 c4) ∧ W.cell? ⟨w.heap.size + 1, 0, none⟩ = some (.int .i64 b.ty) ∧ W.cell? ⟨w.heap.size + 1, 1, none⟩ = some (.slice b1 q1 d1) ∧ W.cell? ⟨w.heap.size + 1, 2, none⟩ = some (.slice b2 q2 d2) ∧ W.cell? ⟨w.heap.size + 1, 3, none⟩ = some (.slice b3 q3 d3) ∧ W.cell? ⟨w.heap.size + 1, 4, none⟩ = some (.slice b4 q4 d4) ∧ Below wr.heap.size wr W)) => law4_Of (.agg #[.int .i64 b.ty, .slice b1 q1 d1, .slice b2 q2 d2, .slice b3 q3 d3, .slice b4 q4 d4]) b W (E2.below h.2.2.2.2.2.2.2.2.2.2) HKB.out.2.1)
  have HFC := Lib.hid (fun (W : World) (u1 u2 : Value) (g1 : DatAt W u1 a) (g2 : DatAt W u2 b) => ref_CompareData u1 u2 a b W g1 g2 HKA.out HKB.out)
  rw [hc] at HFC
  have HX1 := Lib.hid X1; have HX2 := Lib.hid X2; have HE1 := Lib.hid E1; have HE2 := Lib.hid E2; have HC := Lib.hid hc; have HBz := Lib.hid Bz; have HCS := Lib.hid hcs
  clear X1 X2 E1 E2 hc Bz hcs l1 l2
  go_region_held3 (fun W => (W.cell? ⟨w.heap.size, 0, none⟩ = some (.int .i64 a.ty) ∧ W.cell? ⟨w.heap.size, 1, none⟩ = some (.slice a1 p1 c1) ∧ W.cell? ⟨w.heap.size, 2, none⟩ = some (.slice a2 p2 c2) ∧ W.cell? ⟨w.heap.size, 3, none⟩ = some (.slice a3 p3 c3) ∧ W.cell? ⟨w.heap.size, 4, none⟩ = some (.slice a4 p4 c4) ∧ W.cell? ⟨w.heap.size + 1, 0, none⟩ = some (.int .i64 b.ty) ∧ W.cell? ⟨w.heap.size + 1, 1, none⟩ = some (.slice b1 q1 d1) ∧ W.cell? ⟨w.heap.size + 1, 2, none⟩ = some (.slice b2 q2 d2) ∧ W.cell? ⟨w.heap.size + 1, 3, none⟩ = some (.slice b3 q3 d3) ∧ W.cell? ⟨w.heap.size + 1, 4, none⟩ = some (.slice b4 q4 d4) ∧ Below wr.heap.size wr W)) (first | assumption | exact KS.out _ _ (by assumption) (below_drew1 (Below.refl _ _))) (first
    | ((with_reducible refine (HFA.out _ (by assumption)).mono ?_); rintro e w2 ⟨u1, rfl, g1, hb2⟩; obtain ⟨t1, z1, t2, z2, t3, z3, t4, z4, rfl, g1, _⟩ := datV_of _ _ _ _ g1 rfl rfl rfl rfl; have hS2 := KS.out _ _ (by assumption) hb2; try have g2b := DatAt.below g2 hb2)
    | ((with_reducible refine (HFB.out _ (by assumption)).mono ?_); rintro e w2 ⟨u2, rfl, g2, hb2⟩; obtain ⟨s1, y1, s2, y2, s3, y3, s4, y4, rfl, g2, _⟩ := datV_of _ _ _ _ g2 rfl rfl rfl rfl; have hS2 := KS.out _ _ (by assumption) hb2; try have g1b := DatAt.below g1 hb2)
    | ((with_reducible refine (HFC.out _ _ _ (by assumption) (by assumption)).mono ?_); rintro e w2 ⟨rfl, hb2⟩; have hS2 := KS.out _ _ (by assumption) hb2))
  all_goals
    rename_i hSe
    have hbe := hSe.2.2.2.2.2.2.2.2.2.2
    have Bz := HBz.out.trans (hbe.mono HBz.out.size)
    have X1 := HX1.out.below hbe
    have X2 := HX2.out.below hbe
    have E1 := HE1.out.below hbe
    have E2 := HE2.out.below hbe
    clear hSe hS2 hbe hS0 x10 x11 x12 x13 x14 x20 x21 x22 x23 x24
    rcases hcr with rfl | rfl | rfl
    · have hcz : ((-1 : Int) == 0) = false := rfl
      obtain ⟨x10, x11, x12, x13, x14⟩ := cells5 X1
      obtain ⟨x20, x21, x22, x23, x24⟩ := cells5 X2
      go_wp2_with fail
      refine (kn_Compare a b (-1) HC.out HKA.out HKB.out _ _ _ E1 E2).mono ?_
      clear x10 x11 x12 x13 x14 x20 x21 x22 x23 x24
      rintro e wr ⟨rfl, hb⟩
      replace Bz := Bz.trans (hb.mono Bz.size)
      replace X1 := X1.below hb
      replace E1 := E1.below hb
      replace X2 := X2.below hb
      replace E2 := E2.below hb
      clear hb
      obtain ⟨x10, x11, x12, x13, x14⟩ := cells5 X1
      obtain ⟨x20, x21, x22, x23, x24⟩ := cells5 X2
      go_wp2_with fail
      refine (kn_Compare b a (1) (by simp [HCS.out]) HKB.out HKA.out _ _ _ E2 E1).mono ?_
      clear x10 x11 x12 x13 x14 x20 x21 x22 x23 x24
      rintro e wr ⟨rfl, hb⟩
      replace Bz := Bz.trans (hb.mono Bz.size)
      replace X1 := X1.below hb
      replace E1 := E1.below hb
      replace X2 := X2.below hb
      replace E2 := E2.below hb
      clear hb
      obtain ⟨x10, x11, x12, x13, x14⟩ := cells5 X1
      obtain ⟨x20, x21, x22, x23, x24⟩ := cells5 X2
      go_wp2_with fail
      refine (kn_Same a b false (by simp [HC.out]) HKA.out HKB.out _ _ _ E1 E2).mono ?_
      clear x10 x11 x12 x13 x14 x20 x21 x22 x23 x24
      rintro e wr ⟨rfl, hb⟩
      replace Bz := Bz.trans (hb.mono Bz.size)
      replace X1 := X1.below hb
      replace E1 := E1.below hb
      replace X2 := X2.below hb
      replace E2 := E2.below hb
      clear hb
      go_wp2_with fail
      go_ret
      exact ⟨rfl, Bz⟩
    · have hcz : ((0 : Int) == 0) = true := rfl
      obtain ⟨x10, x11, x12, x13, x14⟩ := cells5 X1
      obtain ⟨x20, x21, x22, x23, x24⟩ := cells5 X2
      go_wp2_with fail
      refine (kn_Compare a b (0) HC.out HKA.out HKB.out _ _ _ E1 E2).mono ?_
      clear x10 x11 x12 x13 x14 x20 x21 x22 x23 x24
      rintro e wr ⟨rfl, hb⟩
      replace Bz := Bz.trans (hb.mono Bz.size)
      replace X1 := X1.below hb
      replace E1 := E1.below hb
      replace X2 := X2.below hb
      replace E2 := E2.below hb
      clear hb
      obtain ⟨x10, x11, x12, x13, x14⟩ := cells5 X1
      obtain ⟨x20, x21, x22, x23, x24⟩ := cells5 X2
      go_wp2_with fail
      refine (kn_Compare b a (0) (by simp [HCS.out]) HKB.out HKA.out _ _ _ E2 E1).mono ?_
      clear x10 x11 x12 x13 x14 x20 x21 x22 x23 x24
      rintro e wr ⟨rfl, hb⟩
      replace Bz := Bz.trans (hb.mono Bz.size)
      replace X1 := X1.below hb
      replace E1 := E1.below hb
      replace X2 := X2.below hb
      replace E2 := E2.below hb
      clear hb
      obtain ⟨x10, x11, x12, x13, x14⟩ := cells5 X1
      obtain ⟨x20, x21, x22, x23, x24⟩ := cells5 X2
      go_wp2_with fail
      refine (kn_Same a b true (by simp [HC.out]) HKA.out HKB.out _ _ _ E1 E2).mono ?_
      clear x10 x11 x12 x13 x14 x20 x21 x22 x23 x24
      rintro e wr ⟨rfl, hb⟩
      replace Bz := Bz.trans (hb.mono Bz.size)
      replace X1 := X1.below hb
      replace E1 := E1.below hb
      replace X2 := X2.below hb
      replace E2 := E2.below hb
      clear hb
      go_wp2_with fail
      go_ret
      exact ⟨rfl, Bz⟩
    · have hcz : ((1 : Int) == 0) = false := rfl
      obtain ⟨x10, x11, x12, x13, x14⟩ := cells5 X1
      obtain ⟨x20, x21, x22, x23, x24⟩ := cells5 X2
      go_wp2_with fail
      refine (kn_Compare a b (1) HC.out HKA.out HKB.out _ _ _ E1 E2).mono ?_
      clear x10 x11 x12 x13 x14 x20 x21 x22 x23 x24
      rintro e wr ⟨rfl, hb⟩
      replace Bz := Bz.trans (hb.mono Bz.size)
      replace X1 := X1.below hb
      replace E1 := E1.below hb
      replace X2 := X2.below hb
      replace E2 := E2.below hb
      clear hb
      obtain ⟨x10, x11, x12, x13, x14⟩ := cells5 X1
      obtain ⟨x20, x21, x22, x23, x24⟩ := cells5 X2
      go_wp2_with fail
      refine (kn_Compare b a (-1) (by simp [HCS.out]) HKB.out HKA.out _ _ _ E2 E1).mono ?_
      clear x10 x11 x12 x13 x14 x20 x21 x22 x23 x24
      rintro e wr ⟨rfl, hb⟩
      replace Bz := Bz.trans (hb.mono Bz.size)
      replace X1 := X1.below hb
      replace E1 := E1.below hb
      replace X2 := X2.below hb
      replace E2 := E2.below hb
      clear hb
      obtain ⟨x10, x11, x12, x13, x14⟩ := cells5 X1
      obtain ⟨x20, x21, x22, x23, x24⟩ := cells5 X2
      go_wp2_with fail
      refine (kn_Same a b false (by simp [HC.out]) HKA.out HKB.out _ _ _ E1 E2).mono ?_
      clear x10 x11 x12 x13 x14 x20 x21 x22 x23 x24
      rintro e wr ⟨rfl, hb⟩
      replace Bz := Bz.trans (hb.mono Bz.size)
      replace X1 := X1.below hb
      replace E1 := E1.below hb
      replace X2 := X2.below hb
      replace E2 := E2.below hb
      clear hb
      go_wp2_with fail
      go_ret
      exact ⟨rfl, Bz⟩
end Go.Proofs.YtkjmghnbcnbdbaaGreatDoor

