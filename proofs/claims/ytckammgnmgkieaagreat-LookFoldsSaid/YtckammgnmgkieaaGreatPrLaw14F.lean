/-
  law14.LookFolds: true for any zone and query. (Written by wip/tools/gen14l.py.)
-/
import Derived.Test.YtckammgnmgkieaaGreatMQ23
namespace Go.Proofs.YtckammgnmgkieaaGreat
open Go.RowKit Go.Shelf
set_option maxRecDepth 20000
set_option linter.unusedVariables false
set_option linter.unusedSimpArgs false
set_option maxRecDepth 100000 in
set_option maxHeartbeats 16000000 in
theorem law14_LookFolds {w : World} (vo vl vq : Value) (o : Nm) (l : List Rc) (q : Nm) (hO : NmArg w vo o) (hL : RowArg w vl l) (hQ : NmArg w vq q) (t : Int) :
    Calls Tryz.prog 8 #[vo, vl, vq, .int .i64 t] w fun e w' => e = .returned (.bool true) ∧ Below w.heap.size w w' := by
  have hkn := law14_known w
  have HG1 := Lib.hid (fun (W : World) (hb : Below w.heap.size w W) => law12_Good vo vl o l w W hO hL hb)
  have HG2 := Lib.hid (fun (W : World) (hb : Below w.heap.size w W) => kn_Good vq q _ rfl w W hQ (hQ.1.below hb))
  have HNO := Lib.hid hO.1
  have HNQ := Lib.hid hQ.1
  have HLR := Lib.hid hL.row
  have HLOK := Lib.hid hL.ok
  obtain ⟨ao, co, rfl, -⟩ := nmAt_sl.1 hO.1
  obtain ⟨qo, hqo⟩ : ∃ k, (List.map strV o).length = k := ⟨_, rfl⟩
  obtain ⟨aq, cq, rfl, -⟩ := nmAt_sl.1 hQ.1
  obtain ⟨qn, hqn⟩ : ∃ k, (List.map strV q).length = k := ⟨_, rfl⟩
  obtain ⟨al, ml, cl, rfl⟩ : ∃ a m c, vl = .slice a m c := by
    obtain ⟨css, ⟨a, c, e, _⟩, _⟩ := hL
    exact ⟨a, _, c, e⟩
  rw [hqo] at HG1 HNO ⊢
  rw [hqn] at HG2 HNQ ⊢
  clear hO hL hQ hqo hqn
  go_enter Tryz.func8, Tryz.ntmps8
  go_wp2_with fail
  refine hkn.mono ?_
  rintro e w1 ⟨rfl, hb1⟩
  have HB1 := Lib.hid hb1
  have hc := HG1.out w1 hb1
  clear hkn hb1 HG1
  go_wp2_with fail
  refine hc.mono ?_
  rintro e w2 ⟨rfl, hb2⟩
  have HB2 := Lib.hid (HB1.out.trans (hb2.mono HB1.out.size))
  clear hb2 hc HB1
  obtain ⟨g1, hg1⟩ : ∃ g, (goodN o && goodRs l) = g := ⟨_, rfl⟩
  have HGG1 := Lib.hid hg1
  rw [hg1]
  clear hg1
  cases g1
  · go_wp2
    go_ret
    exact ⟨rfl, HB2.out⟩
  have hc := HG2.out w2 HB2.out
  clear HG2
  go_wp2_with fail
  refine hc.mono ?_
  rintro e w3 ⟨rfl, hb3⟩
  have HB3 := Lib.hid (HB2.out.trans (hb3.mono HB2.out.size))
  clear hb3 hc HB2
  obtain ⟨g2, hg2⟩ : ∃ g, goodN q = g := ⟨_, rfl⟩
  have HGG2 := Lib.hid hg2
  rw [hg2]
  clear hg2
  cases g2
  · go_wp2
    go_ret
    exact ⟨rfl, HB3.out⟩
  have hg := HGG1.out
  simp only [Bool.and_eq_true] at hg
  have hko : NmOK o := fewN_ok (goodN_few' hg.1)
  have hkq : NmOK q := fewN_ok (goodN_few' HGG2.out)
  have hlq := fewN_len' (goodN_few' HGG2.out)
  have hfr : fewRs l = true := by
    have := hg.2
    unfold goodRs at this; simp only [Bool.and_eq_true] at this; exact this.1
  obtain ⟨hl60, hokl⟩ := HLOK.out hfr
  have HALL := Lib.hid (hall_few2 (rs := canonM l) (goodN_few' HGG2.out) (canon_fewL hfr))
  have HFEW := Lib.hid (goodN_few' HGG2.out); have HCF := Lib.hid (canon_fewL hfr)
  have HOKC := Lib.hid (canonM_ok' l hokl)
  have HCL := Lib.hid (show (canonM l).length ≤ 60 by have := canonM_length l; omega)
  have HKO := Lib.hid hko; have HKQ := Lib.hid hkq; have HOKL := Lib.hid hokl; have HL60 := Lib.hid hl60
  have HLQ := Lib.hid (show q.length < 1048576 by omega)
  clear hg hko hkq hfr hl60 hokl hlq HLOK HGG1 HGG2
  have hc := zone_New (.slice ao qo co) (.slice al ml cl) o l (HNO.out.below HB3.out) HKO.out (HLR.out.below HB3.out) HOKL.out (by have := HL60.out; omega)
  obtain ⟨C, hC⟩ : ∃ C, canonM l = C := ⟨_, rfl⟩
  rw [hC] at hc HALL HOKC HCL HCF
  clear hC HOKL HL60 HLR
  go_wp2_with fail
  refine hc.mono ?_
  rintro e w5 ⟨za, zn, zc, v1, m, c, rfl, hZ, hb5⟩
  have hA5 := (Below.refl w5.heap.size w5).alloc (Nat.le_refl _) (.cells #[.slice za zn zc, .slice v1 m c] 57)
  obtain ⟨zb, hzb⟩ : ∃ zb, w5.heap.size = zb := ⟨_, rfl⟩
  obtain ⟨w6, hw6⟩ : ∃ w6, w5.alloc (.cells #[.slice za zn zc, .slice v1 m c] 57) = w6 := ⟨_, rfl⟩
  have hX := knew w5 (.cells #[.slice za zn zc, .slice v1 m c] 57)
  rw [hw6] at hA5 hX
  rw [hzb] at hX
  have hb56 := hb5.trans (hA5.mono hb5.size)
  have HB6 := Lib.hid (HB3.out.trans (hb56.mono HB3.out.size))
  have HZ := Lib.hid (fun W (hb : Below w6.heap.size w6 W) => ((hZ.below hA5).below hb : ZonS W za zn zc v1 m c o C))
  have HY := Lib.hid (fun W (hb : Below w6.heap.size w6 W) => And.intro (kcell ((hb.block _ (kblock_lt hX)).trans hX) 0 _ rfl) (kcell ((hb.block _ (kblock_lt hX)).trans hX) 1 _ rfl))
  have HQW := Lib.hid (fun W (hb : Below w6.heap.size w6 W) => HNQ.out.below (HB6.out.trans (hb.mono HB6.out.size)))
  have HLK := Lib.hid (fun (W : World) (hb : Below w6.heap.size w6 W) (u : Int) => look_Zone u (HZ.out W hb) (HQW.out W hb) HKQ.out HLQ.out HALL.out)
  have HLO := Lib.hid (fun (u : Int) => lookM_ok (o := o) u HKQ.out HOKC.out (by have := HCL.out; omega) HALL.out)
  clear hc hZ hb5 hA5 hX hb56 HB3 HNO HKO
  have KS := Lib.hid (fun W W' (h : (W.cell? ⟨zb, 0, none⟩ = some (.slice za zn zc) ∧ W.cell? ⟨zb, 1, none⟩ = some (.slice v1 m c) ∧ Below w6.heap.size w6 W)) (hb : Below W.heap.size W W') => (show (W'.cell? ⟨zb, 0, none⟩ = some (.slice za zn zc) ∧ W'.cell? ⟨zb, 1, none⟩ = some (.slice v1 m c) ∧ Below w6.heap.size w6 W') from
    have h2 := h.2.2.trans (hb.mono h.2.2.size)
    ⟨(HY.out _ h2).1, (HY.out _ h2).2, h2⟩))
  have hKF : NmOK (foldN q) := fewN_ok (few_fold HFEW.out)
  have hLF : (foldN q).length < 1048576 := by rw [foldN_len]; exact HLQ.out
  obtain ⟨kf, hkf⟩ : ∃ k, (foldN q).length = k := ⟨_, rfl⟩
  have HKF := Lib.hid hKF
  have C1 := Lib.hid (fun W (h : (W.cell? ⟨zb, 0, none⟩ = some (.slice za zn zc) ∧ W.cell? ⟨zb, 1, none⟩ = some (.slice v1 m c) ∧ Below w6.heap.size w6 W)) => HLK.out W h.2.2 t)
  have C2 := Lib.hid (fun W (h : (W.cell? ⟨zb, 0, none⟩ = some (.slice za zn zc) ∧ W.cell? ⟨zb, 1, none⟩ = some (.slice v1 m c) ∧ Below w6.heap.size w6 W)) => kn_NFold (.slice aq qn cq) q (foldN q) kf rfl hkf W (HQW.out W h.2.2) HKQ.out)
  have C3 := Lib.hid (fun W (v : Value) (h : (W.cell? ⟨zb, 0, none⟩ = some (.slice za zn zc) ∧ W.cell? ⟨zb, 1, none⟩ = some (.slice v1 m c) ∧ Below w6.heap.size w6 W)) (hn : NmAt W v (foldN q)) => look_Zone t (HZ.out W h.2.2) hn hKF hLF (hall_few2 (few_fold HFEW.out) HCF.out))
  have C4 := Lib.hid (fun W cs ds (h : (W.cell? ⟨zb, 0, none⟩ = some (.slice za zn zc) ∧ W.cell? ⟨zb, 1, none⟩ = some (.slice v1 m c) ∧ Below w6.heap.size w6 W)) (h1 : LkAt W cs (lookM o C q t)) (h2 : LkAt W ds (lookM o C (foldN q) t)) => show Calls Tryz.prog 53 #[.agg cs.toArray, .agg ds.toArray] W fun e w' => e = .returned (.bool true) ∧ Below W.heap.size W w' from by
    have hc := look_Same cs ds _ _ W h1 h2 (HLO.out t) (lookM_ok (o := o) t hKF HOKC.out (by have := HCL.out; omega) (hall_few2 (few_fold HFEW.out) HCF.out))
    rw [look_folds] at hc; exact hc)
  have C6 := Lib.hid (fun W (v : Value) (h : (W.cell? ⟨zb, 0, none⟩ = some (.slice za zn zc) ∧ W.cell? ⟨zb, 1, none⟩ = some (.slice v1 m c) ∧ Below w6.heap.size w6 W)) (hn : NmAt W v (foldN q)) => kn_RSame v (.slice aq qn cq) (foldN q) q true ((sameN_iff _ _).2 ((sameN_iff _ _).1 (sameN_fold q)).symm) W hn (HQW.out W h.2.2) hKF HKQ.out)
  clear hKF hLF hkf HLK HZ HQW HALL HOKC HCL HKQ HLQ HNQ HFEW HCF HLO
  obtain ⟨y0, y1⟩ := HY.out w6 (Below.refl _ _)
  have hcl : Below w6.heap.size w6 w6.drew := ⟨rfl, rfl, rfl, Nat.le_refl _, fun _ _ => rfl⟩
  have hS0 : w6.drew.cell? ⟨zb, 0, none⟩ = some (.slice za zn zc) ∧ w6.drew.cell? ⟨zb, 1, none⟩ = some (.slice v1 m c) ∧ Below w6.heap.size w6 w6.drew := ⟨(HY.out _ hcl).1, (HY.out _ hcl).2, hcl⟩
  have HB0 := Lib.hid (Below.refl w6.heap.size w6)
  clear hcl
  go_wp2_with fail
  clear hw6 hzb
  go_region_held3 (fun W => W.cell? ⟨zb, 0, none⟩ = some (.slice za zn zc) ∧ W.cell? ⟨zb, 1, none⟩ = some (.slice v1 m c) ∧ Below w6.heap.size w6 W)
    (first | with_reducible assumption | exact ⟨y0, y1, HB0.out⟩)
    (first
      | ((with_reducible refine (C1.out _ (by with_reducible assumption)).mono ?_); rintro e w7 ⟨cs7, rfl, hk7, hb7⟩; obtain ⟨⟨a1, b1, c1⟩, ⟨a2, b2, c2⟩, ⟨a4, b4, c4⟩, rfl⟩ := (hk7 _ (FarKeep.refl _ _)).shape; have K7 := Lib.hid hk7; have hS2 := KS.out _ _ (by with_reducible assumption) hb7; clear hk7 hb7)
      | ((with_reducible refine (C2.out _ (by with_reducible assumption)).mono ?_); rintro e w8 ⟨a8, c8, rfl, hn8, hb8⟩; have N8 := Lib.hid hn8; have B8 := Lib.hid hb8; have hS2 := KS.out _ _ (by with_reducible assumption) hb8; clear hn8 hb8)
      | ((with_reducible refine (C3.out _ _ (by with_reducible assumption) N8.out).mono ?_); rintro e w9 ⟨cs9, rfl, hk9, hb9⟩; obtain ⟨⟨a5, b5, c5⟩, ⟨a6, b6, c6⟩, ⟨a9, b9, c9⟩, rfl⟩ := (hk9 _ (FarKeep.refl _ _)).shape; have L9 := Lib.hid (hk9 _ (FarKeep.refl _ _)); have M9 := Lib.hid (K7.out _ (FarKeep.of_below (B8.out.trans (hb9.mono B8.out.size)))); have hS2 := KS.out _ _ (by with_reducible assumption) hb9; clear hk9 hb9)
      | ((with_reducible refine (C4.out _ _ _ (by with_reducible assumption) M9.out L9.out).mono ?_); rintro e w10 ⟨rfl, hb10⟩; have hS2 := KS.out _ _ (by with_reducible assumption) hb10; clear hb10)
      | ((with_reducible refine (C6.out _ _ (by with_reducible assumption) N8.out).mono ?_); rintro e w12 ⟨rfl, hb12⟩; have hS2 := KS.out _ _ (by with_reducible assumption) hb12; clear hb12))
  go_wp2
  go_ret
  exact ⟨rfl, HB6.out.trans (hS2.2.2.mono HB6.out.size)⟩
end Go.Proofs.YtckammgnmgkieaaGreat
