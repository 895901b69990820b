/-
  law14.LookBelow: true for any zone and query. (Written by wip/tools/gen14l.py.)
-/
import Derived.Test.YtckammgnmgkieaaGreatMQ23
import Derived.Test.YtckammgnmgkieaaGreatMQ43
namespace Go.Proofs.YtckammgnmgkieaaGreat
open Go.RowKit Go.Shelf
set_option maxRecDepth 20000
set_option linter.unusedVariables false
set_option linter.unusedSimpArgs false
theorem lk_field0 (k : Int) (x1 x2 x3 x4 : Value) (W : World) : Sem.run Tryz.prog (Instr.field 84 (.agg #[.int .i64 k, x1, x2, x3, x4]) 0) W = .ok (.int .i64 k) W := by
  have hu : ∀ w, Sem.run Tryz.prog (underlying 84) w = .ok _ w := run_underlying Tryz.underlying84
  have hi : ∀ w, Sem.run Tryz.prog (underlying 3) w = .ok _ w := run_underlying Tryz.underlying3
  simp [Instr.field, part, asAgg, isAgg, go_sem, hu, hi]
set_option maxRecDepth 100000 in
set_option maxHeartbeats 16000000 in
theorem law14_LookBelow {w : World} (vo vl vq : Value) (o : Nm) (l : List Rc) (q : Nm) (hO : NmArg w vo o) (hL : RowArg w vl l) (hQ : NmArg w vq q) (t u : Int) :
    Calls Tryz.prog 9 #[vo, vl, vq, .int .i64 t, .int .i64 u] w fun e w' => e = .returned (.bool true) ∧ Below w.heap.size w w' := by
  have hkn := law14_known w
  have HG1 := Lib.hid (fun (W : World) (hb : Below w.heap.size w W) => law12_Good vo vl o l w W hO hL hb)
  have HG2 := Lib.hid (fun (W : World) (hb : Below w.heap.size w W) => kn_Good vq q _ rfl w W hQ (hQ.1.below hb))
  have HNO := Lib.hid hO.1
  have HNQ := Lib.hid hQ.1
  have HLR := Lib.hid hL.row
  have HLOK := Lib.hid hL.ok
  obtain ⟨ao, co, rfl, -⟩ := nmAt_sl.1 hO.1
  obtain ⟨qo, hqo⟩ : ∃ k, (List.map strV o).length = k := ⟨_, rfl⟩
  obtain ⟨aq, cq, rfl, -⟩ := nmAt_sl.1 hQ.1
  obtain ⟨qn, hqn⟩ : ∃ k, (List.map strV q).length = k := ⟨_, rfl⟩
  obtain ⟨al, ml, cl, rfl⟩ : ∃ a m c, vl = .slice a m c := by
    obtain ⟨css, ⟨a, c, e, _⟩, _⟩ := hL
    exact ⟨a, _, c, e⟩
  rw [hqo] at HG1 HNO ⊢
  rw [hqn] at HG2 HNQ ⊢
  clear hO hL hQ hqo hqn
  go_enter Tryz.func9, Tryz.ntmps9
  go_wp2_with fail
  refine hkn.mono ?_
  rintro e w1 ⟨rfl, hb1⟩
  have HB1 := Lib.hid hb1
  have hc := HG1.out w1 hb1
  clear hkn hb1 HG1
  go_wp2_with fail
  refine hc.mono ?_
  rintro e w2 ⟨rfl, hb2⟩
  have HB2 := Lib.hid (HB1.out.trans (hb2.mono HB1.out.size))
  clear hb2 hc HB1
  obtain ⟨g1, hg1⟩ : ∃ g, (goodN o && goodRs l) = g := ⟨_, rfl⟩
  have HGG1 := Lib.hid hg1
  rw [hg1]
  clear hg1
  cases g1
  · go_wp2
    go_ret
    exact ⟨rfl, HB2.out⟩
  have hc := HG2.out w2 HB2.out
  clear HG2
  go_wp2_with fail
  refine hc.mono ?_
  rintro e w3 ⟨rfl, hb3⟩
  have HB3 := Lib.hid (HB2.out.trans (hb3.mono HB2.out.size))
  clear hb3 hc HB2
  obtain ⟨g2, hg2⟩ : ∃ g, goodN q = g := ⟨_, rfl⟩
  have HGG2 := Lib.hid hg2
  rw [hg2]
  clear hg2
  cases g2
  · go_wp2
    go_ret
    exact ⟨rfl, HB3.out⟩
  have hg := HGG1.out
  simp only [Bool.and_eq_true] at hg
  have hko : NmOK o := fewN_ok (goodN_few' hg.1)
  have hkq : NmOK q := fewN_ok (goodN_few' HGG2.out)
  have hlq := fewN_len' (goodN_few' HGG2.out)
  have hfr : fewRs l = true := by
    have := hg.2
    unfold goodRs at this; simp only [Bool.and_eq_true] at this; exact this.1
  obtain ⟨hl60, hokl⟩ := HLOK.out hfr
  have HALL := Lib.hid (hall_few2 (rs := canonM l) (goodN_few' HGG2.out) (canon_fewL hfr))
  have HFEW := Lib.hid (goodN_few' HGG2.out); have HCF := Lib.hid (canon_fewL hfr)
  have HOKC := Lib.hid (canonM_ok' l hokl)
  have HCL := Lib.hid (show (canonM l).length ≤ 60 by have := canonM_length l; omega)
  have HKO := Lib.hid hko; have HKQ := Lib.hid hkq; have HOKL := Lib.hid hokl; have HL60 := Lib.hid hl60
  have HLQ := Lib.hid (show q.length < 1048576 by omega)
  clear hg hko hkq hfr hl60 hokl hlq HLOK HGG1 HGG2
  have hc := kn_NUnder (.slice aq qn cq) (.slice ao qo co) q o _ rfl w3 (HNQ.out.below HB3.out) (HNO.out.below HB3.out) HKQ.out HKO.out
  go_wp2_with fail
  refine hc.mono ?_
  rintro e w4 ⟨rfl, hb4⟩
  have HB4 := Lib.hid (HB3.out.trans (hb4.mono HB3.out.size))
  clear hb4 hc HB3
  obtain ⟨un, hun⟩ : ∃ g, underN q o = g := ⟨_, rfl⟩
  have HU := Lib.hid hun
  rw [hun]
  clear hun
  cases un
  · go_wp2
    go_ret
    exact ⟨rfl, HB4.out⟩
  have HB3 := HB4
  clear HB4
  have hc := zone_New (.slice ao qo co) (.slice al ml cl) o l (HNO.out.below HB3.out) HKO.out (HLR.out.below HB3.out) HOKL.out (by have := HL60.out; omega)
  obtain ⟨C, hC⟩ : ∃ C, canonM l = C := ⟨_, rfl⟩
  rw [hC] at hc HALL HOKC HCL HCF
  clear hC HOKL HL60 HLR
  go_wp2_with fail
  refine hc.mono ?_
  rintro e w5 ⟨za, zn, zc, v1, m, c, rfl, hZ, hb5⟩
  have hA5 := (Below.refl w5.heap.size w5).alloc (Nat.le_refl _) (.cells #[.slice za zn zc, .slice v1 m c] 57)
  obtain ⟨zb, hzb⟩ : ∃ zb, w5.heap.size = zb := ⟨_, rfl⟩
  obtain ⟨w6, hw6⟩ : ∃ w6, w5.alloc (.cells #[.slice za zn zc, .slice v1 m c] 57) = w6 := ⟨_, rfl⟩
  have hX := knew w5 (.cells #[.slice za zn zc, .slice v1 m c] 57)
  rw [hw6] at hA5 hX
  rw [hzb] at hX
  have hb56 := hb5.trans (hA5.mono hb5.size)
  have HB6 := Lib.hid (HB3.out.trans (hb56.mono HB3.out.size))
  have HZ := Lib.hid (fun W (hb : Below w6.heap.size w6 W) => ((hZ.below hA5).below hb : ZonS W za zn zc v1 m c o C))
  have HY := Lib.hid (fun W (hb : Below w6.heap.size w6 W) => And.intro (kcell ((hb.block _ (kblock_lt hX)).trans hX) 0 _ rfl) (kcell ((hb.block _ (kblock_lt hX)).trans hX) 1 _ rfl))
  have HQW := Lib.hid (fun W (hb : Below w6.heap.size w6 W) => HNQ.out.below (HB6.out.trans (hb.mono HB6.out.size)))
  have HLK := Lib.hid (fun (W : World) (hb : Below w6.heap.size w6 W) (u : Int) => look_Zone u (HZ.out W hb) (HQW.out W hb) HKQ.out HLQ.out HALL.out)
  have HLO := Lib.hid (fun (u : Int) => lookM_ok (o := o) u HKQ.out HOKC.out (by have := HCL.out; omega) HALL.out)
  clear hc hZ hb5 hA5 hX hb56 HB3 HNO HKO
  have D6 := Lib.hid (Below.refl w6.heap.size w6)
  obtain ⟨y0, y1⟩ := HY.out w6 D6.out
  obtain ⟨cu, hcu⟩ : ∃ r, cutM o C q = r := ⟨_, rfl⟩
  have HCU := Lib.hid hcu
  have hc := zs_cut (HZ.out w6 D6.out) (HQW.out w6 D6.out) HKQ.out
  rw [hcu] at hc
  clear hcu
  go_wp2_with fail
  clear hw6 hzb
  refine hc.mono ?_
  rintro e w7 ⟨a7, k7, c7, rfl, h7, hb⟩
  have H77 := Lib.hid h7
  clear hc y0 y1 h7
  have D7 := Lib.hid (D6.out.trans (hb.mono D6.out.size))
  clear D6 
  clear hb
  cases cu with
  | none =>
    have hfr := look_free (t := t) HU.out HCU.out
    have HFR := Lib.hid hfr
    clear hfr
    obtain ⟨y0, y1⟩ := HY.out w7 D7.out
    have hc := HLK.out w7 D7.out t
    have hkd := HFR.out.1
    go_wp2_with fail
    refine hc.mono ?_
    rintro e w8 ⟨cs, rfl, hk, hb⟩
    obtain ⟨a1x, c1x, a2x, c2x, a4x, c4x, rfl⟩ := (hk _ (FarKeep.refl _ _)).lens
    generalize (lookM o C q t).data.length = n1x
    generalize (lookM o C q t).name.length = n2x
    generalize (lookM o C q t).glue.length = n4x
    generalize (lookM o C q t).wild = wix
    generalize (lookM o C q t).kind = kdx at hkd ⊢
    have e4 : (kdx != 4) = true := by simpa using hkd
    clear hk hc y0 y1 hkd
    have D8 := Lib.hid (D7.out.trans (hb.mono D7.out.size))
    clear D7 
    clear hb
    obtain ⟨y0, y1⟩ := HY.out w8 D8.out
    have hc := HLK.out w8 D8.out t
    have hkd := HFR.out.2
    have hfx := fun W => lk_field0 kdx (.slice a1x n1x c1x) (.slice a2x n2x c2x) (.bool wix) (.slice a4x n4x c4x) W
    go_wp2_with fail
    refine hc.mono ?_
    rintro e w9 ⟨cs, rfl, hk, hb⟩
    obtain ⟨a1y, c1y, a2y, c2y, a4y, c4y, rfl⟩ := (hk _ (FarKeep.refl _ _)).lens
    generalize (lookM o C q t).data.length = n1y
    generalize (lookM o C q t).name.length = n2y
    generalize (lookM o C q t).glue.length = n4y
    generalize (lookM o C q t).wild = wiy
    generalize (lookM o C q t).kind = kdy at hkd ⊢
    have e7 : (kdy != 7) = true := by simpa using hkd
    clear hk hc y0 y1 hkd
    have D9 := Lib.hid (D8.out.trans (hb.mono D8.out.size))
    clear D8 
    clear hb
    have hfy := fun W => lk_field0 kdy (.slice a1y n1y c1y) (.slice a2y n2y c2y) (.bool wiy) (.slice a4y n4y c4y) W
    go_wp2
    go_ret
    exact ⟨rfl, HB6.out.trans (D9.out.mono HB6.out.size)⟩
  | some s =>
    have h77 := H77.out
    have hk7 := nm_len h77
    rw [show cutN q (some s) = ancN q s from rfl] at h77 hk7
    have H7w := Lib.hid (fun W (h : Below w7.heap.size w7 W) => (h77.below h : NmAt W (.slice a7 k7 c7) (ancN q s)))
    have HKA := Lib.hid (ancN_okR HKQ.out s)
    have HLA := Lib.hid (show (ancN q s).length < 1048576 by have h := HLQ.out; unfold ancN; rw [List.length_drop]; omega)
    have HF7 := Lib.hid (Below.refl w7.heap.size w7)
    have E7 := Lib.hid (Below.refl w7.heap.size w7)
    clear h77 hk7 H77
    have HLA2 := Lib.hid (fun (W : World) (hb : Below w6.heap.size w6 W) (hb7 : Below w7.heap.size w7 W) => look_Zone t (HZ.out W hb) (H7w.out W hb7) HKA.out HLA.out (hall_few2 (few_anc HFEW.out s) HCF.out))
    have HLO2 := Lib.hid (lookM_ok (o := o) t HKA.out HOKC.out (by have := HCL.out; omega) (hall_few2 (few_anc HFEW.out s) HCF.out))
    obtain ⟨y0, y1⟩ := HY.out w7 D7.out
    have hc := HLA2.out w7 D7.out (Below.refl _ _)
    obtain ⟨Rx, hR⟩ : ∃ R, lookM o C (ancN q s) t = R := ⟨_, rfl⟩
    have HRx := Lib.hid hR
    rw [hR] at hc
    clear hR
    go_wp2_with fail
    refine hc.mono ?_
    rintro e w8 ⟨cs, rfl, hk, hb⟩
    obtain ⟨a1x, c1x, a2x, c2x, a4x, c4x, rfl⟩ := (hk _ (FarKeep.refl _ _)).lens
    have hl := hk _ (FarKeep.refl _ _)
    obtain ⟨kx, hk⟩ : ∃ z, Rx.kind = z := ⟨_, rfl⟩
    have HKx := Lib.hid hk
    rw [hk] at hl ⊢
    clear hk
    obtain ⟨nx, hn⟩ : ∃ z, Rx.data.length = z := ⟨_, rfl⟩
    have HNx := Lib.hid hn
    rw [hn] at hl ⊢
    clear hn
    obtain ⟨mx, hm⟩ : ∃ z, Rx.name.length = z := ⟨_, rfl⟩
    have HMx := Lib.hid hm
    rw [hm] at hl ⊢
    clear hm
    obtain ⟨ex, he⟩ : ∃ z, Rx.wild = z := ⟨_, rfl⟩
    have HEx := Lib.hid he
    rw [he] at hl ⊢
    clear he
    obtain ⟨gx, hg⟩ : ∃ z, Rx.glue.length = z := ⟨_, rfl⟩
    have HGx := Lib.hid hg
    rw [hg] at hl ⊢
    clear hg
    clear hk hc y0 y1
    have D8 := Lib.hid (D7.out.trans (hb.mono D7.out.size))
    have E8 := Lib.hid (E7.out.trans (hb.mono E7.out.size))
    clear D7 
    clear hb
    have hA := (Below.refl w8.heap.size w8).alloc (Nat.le_refl _) (.cells #[.int .i64 kx, .slice a1x nx c1x, .slice a2x mx c2x, .bool ex, .slice a4x gx c4x] 84)
    obtain ⟨Bx, hx9⟩ : ∃ b, w8.heap.size = b := ⟨_, rfl⟩
    obtain ⟨w9, hW9⟩ : ∃ W, w8.alloc (.cells #[.int .i64 kx, .slice a1x nx c1x, .slice a2x mx c2x, .bool ex, .slice a4x gx c4x] 84) = W := ⟨_, rfl⟩
    have hX := knew w8 (.cells #[.int .i64 kx, .slice a1x nx c1x, .slice a2x mx c2x, .bool ex, .slice a4x gx c4x] 84)
    rw [hW9] at hA hX
    rw [hx9] at hX
    have D9 := Lib.hid (D8.out.trans (hA.mono D8.out.size))
    have E9 := Lib.hid (E8.out.trans (hA.mono E8.out.size))
    have E79 := E9
    have F9 := Lib.hid (Below.refl w9.heap.size w9)
    clear D8 
    have Xx9 := Lib.hid hX
    have Lx9 := Lib.hid (hl.below hA)
    clear hA hX hl
    have H79 : Hid (∀ W, Below w9.heap.size w9 W → NmAt W (.slice a7 k7 c7) (ancN q s)) := Lib.hid (fun W h => H7w.out W (E79.out.trans (h.mono E79.out.size)))
    obtain ⟨y0, y1⟩ := HY.out w9 D9.out
    have hc := HLK.out w9 D9.out t
    obtain ⟨Ry, hR⟩ : ∃ R, lookM o C q t = R := ⟨_, rfl⟩
    have HRy := Lib.hid hR
    rw [hR] at hc
    clear hR
    go_wp2_with fail
    clear hW9 hx9
    refine hc.mono ?_
    rintro e w10 ⟨cs, rfl, hk, hb⟩
    obtain ⟨a1y, c1y, a2y, c2y, a4y, c4y, rfl⟩ := (hk _ (FarKeep.refl _ _)).lens
    have hl := hk _ (FarKeep.refl _ _)
    obtain ⟨ky, hk⟩ : ∃ z, Ry.kind = z := ⟨_, rfl⟩
    have HKy := Lib.hid hk
    rw [hk] at hl ⊢
    clear hk
    obtain ⟨ny, hn⟩ : ∃ z, Ry.data.length = z := ⟨_, rfl⟩
    have HNy := Lib.hid hn
    rw [hn] at hl ⊢
    clear hn
    obtain ⟨my, hm⟩ : ∃ z, Ry.name.length = z := ⟨_, rfl⟩
    have HMy := Lib.hid hm
    rw [hm] at hl ⊢
    clear hm
    obtain ⟨ey, he⟩ : ∃ z, Ry.wild = z := ⟨_, rfl⟩
    have HEy := Lib.hid he
    rw [he] at hl ⊢
    clear he
    obtain ⟨gy, hg⟩ : ∃ z, Ry.glue.length = z := ⟨_, rfl⟩
    have HGy := Lib.hid hg
    rw [hg] at hl ⊢
    clear hg
    clear hk hc y0 y1
    have D10 := Lib.hid (D9.out.trans (hb.mono D9.out.size))
    have F10 := Lib.hid (F9.out.trans (hb.mono F9.out.size))
    have Lx10 := Lib.hid (Lx9.out.below hb)
    have Xx10 := Lib.hid ((hb.block _ (kblock_lt Xx9.out)).trans Xx9.out)
    clear D9 Lx9 Xx9
    clear hb
    have hA := (Below.refl w10.heap.size w10).alloc (Nat.le_refl _) (.cells #[.int .i64 ky, .slice a1y ny c1y, .slice a2y my c2y, .bool ey, .slice a4y gy c4y] 84)
    obtain ⟨By, hx11⟩ : ∃ b, w10.heap.size = b := ⟨_, rfl⟩
    obtain ⟨w11, hW11⟩ : ∃ W, w10.alloc (.cells #[.int .i64 ky, .slice a1y ny c1y, .slice a2y my c2y, .bool ey, .slice a4y gy c4y] 84) = W := ⟨_, rfl⟩
    have hX := knew w10 (.cells #[.int .i64 ky, .slice a1y ny c1y, .slice a2y my c2y, .bool ey, .slice a4y gy c4y] 84)
    rw [hW11] at hA hX
    rw [hx11] at hX
    have D11 := Lib.hid (D10.out.trans (hA.mono D10.out.size))
    have F11 := Lib.hid (F10.out.trans (hA.mono F10.out.size))
    have Lx11 := Lib.hid (Lx10.out.below hA)
    have Xx11 := Lib.hid ((hA.block _ (kblock_lt Xx10.out)).trans Xx10.out)
    clear D10 Lx10 Xx10
    have Xy11 := Lib.hid hX
    have Ly11 := Lib.hid (hl.below hA)
    clear hA hX hl
    obtain ⟨y0, y1⟩ := HY.out w11 D11.out
    have hc := HLK.out w11 D11.out u
    obtain ⟨Rz, hR⟩ : ∃ R, lookM o C q u = R := ⟨_, rfl⟩
    have HRz := Lib.hid hR
    rw [hR] at hc
    clear hR
    go_wp2_with fail
    clear hW11 hx11
    refine hc.mono ?_
    rintro e w12 ⟨cs, rfl, hk, hb⟩
    obtain ⟨a1z, c1z, a2z, c2z, a4z, c4z, rfl⟩ := (hk _ (FarKeep.refl _ _)).lens
    have hl := hk _ (FarKeep.refl _ _)
    obtain ⟨kz, hk⟩ : ∃ z, Rz.kind = z := ⟨_, rfl⟩
    have HKz := Lib.hid hk
    rw [hk] at hl ⊢
    clear hk
    obtain ⟨nz, hn⟩ : ∃ z, Rz.data.length = z := ⟨_, rfl⟩
    have HNz := Lib.hid hn
    rw [hn] at hl ⊢
    clear hn
    obtain ⟨mz, hm⟩ : ∃ z, Rz.name.length = z := ⟨_, rfl⟩
    have HMz := Lib.hid hm
    rw [hm] at hl ⊢
    clear hm
    obtain ⟨ez, he⟩ : ∃ z, Rz.wild = z := ⟨_, rfl⟩
    have HEz := Lib.hid he
    rw [he] at hl ⊢
    clear he
    obtain ⟨gz, hg⟩ : ∃ z, Rz.glue.length = z := ⟨_, rfl⟩
    have HGz := Lib.hid hg
    rw [hg] at hl ⊢
    clear hg
    clear hk hc y0 y1
    have D12 := Lib.hid (D11.out.trans (hb.mono D11.out.size))
    have F12 := Lib.hid (F11.out.trans (hb.mono F11.out.size))
    have Lx12 := Lib.hid (Lx11.out.below hb)
    have Ly12 := Lib.hid (Ly11.out.below hb)
    have Xx12 := Lib.hid ((hb.block _ (kblock_lt Xx11.out)).trans Xx11.out)
    have Xy12 := Lib.hid ((hb.block _ (kblock_lt Xy11.out)).trans Xy11.out)
    clear D11 Lx11 Ly11 Xx11 Xy11
    clear hb
    have hA := (Below.refl w12.heap.size w12).alloc (Nat.le_refl _) (.cells #[.int .i64 kz, .slice a1z nz c1z, .slice a2z mz c2z, .bool ez, .slice a4z gz c4z] 84)
    obtain ⟨Bz, hx13⟩ : ∃ b, w12.heap.size = b := ⟨_, rfl⟩
    obtain ⟨w13, hW13⟩ : ∃ W, w12.alloc (.cells #[.int .i64 kz, .slice a1z nz c1z, .slice a2z mz c2z, .bool ez, .slice a4z gz c4z] 84) = W := ⟨_, rfl⟩
    have hX := knew w12 (.cells #[.int .i64 kz, .slice a1z nz c1z, .slice a2z mz c2z, .bool ez, .slice a4z gz c4z] 84)
    rw [hW13] at hA hX
    rw [hx13] at hX
    have D13 := Lib.hid (D12.out.trans (hA.mono D12.out.size))
    have F13 := Lib.hid (F12.out.trans (hA.mono F12.out.size))
    have E79b := F13
    have Lx13 := Lib.hid (Lx12.out.below hA)
    have Ly13 := Lib.hid (Ly12.out.below hA)
    have Xx13 := Lib.hid ((hA.block _ (kblock_lt Xx12.out)).trans Xx12.out)
    have Xy13 := Lib.hid ((hA.block _ (kblock_lt Xy12.out)).trans Xy12.out)
    clear D12 Lx12 Ly12 Xx12 Xy12
    have Xz13 := Lib.hid hX
    have Lz13 := Lib.hid (hl.below hA)
    clear hA hX hl
    have hlb := look_below HCU.out t u
    rw [HRx.out, HRy.out, HRz.out] at hlb
    have hcx := HLO2.out
    have hcy := HLO.out t
    have hcz := HLO.out u
    rw [HRx.out] at hcx
    rw [HRy.out] at hcy
    rw [HRz.out] at hcz
    have HCX := Lib.hid hcx; have HCY := Lib.hid hcy; have HCZ := Lib.hid hcz
    clear hcx hcy hcz
    have HF := Lib.hid (HB6.out.trans (D13.out.mono HB6.out.size))
    rcases hlb with ⟨h1, h2⟩ | ⟨h1, h2, h3, h4, h5⟩
    · skip
      rw [HKx.out] at h1
      rw [HKy.out] at h2
      have zx0 := kcell Xx13.out 0 _ rfl
      have zy0 := kcell Xy13.out 0 _ rfl
      rcases h1 with rfl | rfl <;> rcases h2 with rfl | rfl
      all_goals
        go_wp2
        go_ret
        exact ⟨rfl, HF.out⟩
    · skip
      rw [HKx.out] at h1
      obtain rfl := h1
      obtain rfl := h2
      obtain rfl := h3
      have h6 : (0 : Int) < (nx : Int) := by
        have h := HNx.out
        cases hd : Rz.data with
        | nil => exact absurd hd h5
        | cons a b => rw [hd] at h; simp at h; omega
      have HNM := Lib.hid h4; clear h4 h5
      have hc := look_Same _ _ _ _ w13 Lx13.out Ly13.out HCX.out HCX.out
      rw [sameLk_refl] at hc
      have zx0 := kcell Xx13.out 0 _ rfl
      have zx1 := kcell Xx13.out 1 _ rfl
      have zx2 := kcell Xx13.out 2 _ rfl
      have zx3 := kcell Xx13.out 3 _ rfl
      have zx4 := kcell Xx13.out 4 _ rfl
      have zy0 := kcell Xy13.out 0 _ rfl
      have zy1 := kcell Xy13.out 1 _ rfl
      have zy2 := kcell Xy13.out 2 _ rfl
      have zy3 := kcell Xy13.out 3 _ rfl
      have zy4 := kcell Xy13.out 4 _ rfl
      have zz0 := kcell Xz13.out 0 _ rfl
      have zz1 := kcell Xz13.out 1 _ rfl
      have zz2 := kcell Xz13.out 2 _ rfl
      have zz3 := kcell Xz13.out 3 _ rfl
      have zz4 := kcell Xz13.out 4 _ rfl
      go_wp2_with fail
      clear hW13 hx13
      refine hc.mono ?_
      rintro e w14 ⟨rfl, hb⟩
      clear hc zx0 zx1 zx2 zx3 zx4 zy0 zy1 zy2 zy3 zy4 zz0 zz1 zz2 zz3 zz4
      have D14 := Lib.hid (D13.out.trans (hb.mono D13.out.size))
      have Lx14 := Lib.hid (Lx13.out.below hb)
      have Ly14 := Lib.hid (Ly13.out.below hb)
      have Lz14 := Lib.hid (Lz13.out.below hb)
      have Xx14 := Lib.hid ((hb.block _ (kblock_lt Xx13.out)).trans Xx13.out)
      have Xy14 := Lib.hid ((hb.block _ (kblock_lt Xy13.out)).trans Xy13.out)
      have Xz14 := Lib.hid ((hb.block _ (kblock_lt Xz13.out)).trans Xz13.out)
      clear D13 Lx13 Ly13 Lz13 Xx13 Xy13 Xz13
      have E8 := Lib.hid hb
      clear hb
      have hc := look_Same _ _ _ _ w14 Ly14.out Lz14.out HCX.out HCX.out
      rw [sameLk_refl] at hc
      have zx0 := kcell Xx14.out 0 _ rfl
      have zx1 := kcell Xx14.out 1 _ rfl
      have zx2 := kcell Xx14.out 2 _ rfl
      have zx3 := kcell Xx14.out 3 _ rfl
      have zx4 := kcell Xx14.out 4 _ rfl
      have zy0 := kcell Xy14.out 0 _ rfl
      have zy1 := kcell Xy14.out 1 _ rfl
      have zy2 := kcell Xy14.out 2 _ rfl
      have zy3 := kcell Xy14.out 3 _ rfl
      have zy4 := kcell Xy14.out 4 _ rfl
      have zz0 := kcell Xz14.out 0 _ rfl
      have zz1 := kcell Xz14.out 1 _ rfl
      have zz2 := kcell Xz14.out 2 _ rfl
      have zz3 := kcell Xz14.out 3 _ rfl
      have zz4 := kcell Xz14.out 4 _ rfl
      go_wp2_with fail
      refine hc.mono ?_
      rintro e w15 ⟨rfl, hb⟩
      clear hc zx0 zx1 zx2 zx3 zx4 zy0 zy1 zy2 zy3 zy4 zz0 zz1 zz2 zz3 zz4
      have D15 := Lib.hid (D14.out.trans (hb.mono D14.out.size))
      have Lx15 := Lib.hid (Lx14.out.below hb)
      have Ly15 := Lib.hid (Ly14.out.below hb)
      have Lz15 := Lib.hid (Lz14.out.below hb)
      have Xx15 := Lib.hid ((hb.block _ (kblock_lt Xx14.out)).trans Xx14.out)
      have Xy15 := Lib.hid ((hb.block _ (kblock_lt Xy14.out)).trans Xy14.out)
      have Xz15 := Lib.hid ((hb.block _ (kblock_lt Xz14.out)).trans Xz14.out)
      clear D14 Lx14 Ly14 Lz14 Xx14 Xy14 Xz14
      have E9 := Lib.hid (E8.out.trans (hb.mono E8.out.size))
      clear hb E8
      have hnx : NmAt w15 (.slice a2x mx c2x) (ancN q s) := by
        obtain ⟨⟨_, _, _⟩, ⟨_, _, _⟩, ⟨_, _, _⟩, e, -, h, -⟩ := Lx15.out
        simp only [List.cons.injEq, and_true] at e
        rw [e.2.2.1, ← HNM.out]; exact h
      have hc := kn_NSame (.slice a2x mx c2x) (.slice a7 k7 c7) _ _ true (sameN_refl (ancN q s)) w15 hnx (H79.out _ (E79b.out.trans (E9.out.mono E79b.out.size))) HKA.out HKA.out
      clear hnx
      have zx0 := kcell Xx15.out 0 _ rfl
      have zx1 := kcell Xx15.out 1 _ rfl
      have zx2 := kcell Xx15.out 2 _ rfl
      have zx3 := kcell Xx15.out 3 _ rfl
      have zx4 := kcell Xx15.out 4 _ rfl
      have zy0 := kcell Xy15.out 0 _ rfl
      have zy1 := kcell Xy15.out 1 _ rfl
      have zy2 := kcell Xy15.out 2 _ rfl
      have zy3 := kcell Xy15.out 3 _ rfl
      have zy4 := kcell Xy15.out 4 _ rfl
      have zz0 := kcell Xz15.out 0 _ rfl
      have zz1 := kcell Xz15.out 1 _ rfl
      have zz2 := kcell Xz15.out 2 _ rfl
      have zz3 := kcell Xz15.out 3 _ rfl
      have zz4 := kcell Xz15.out 4 _ rfl
      go_wp2_with fail
      refine hc.mono ?_
      rintro e w16 ⟨rfl, hb⟩
      clear hc zx0 zx1 zx2 zx3 zx4 zy0 zy1 zy2 zy3 zy4 zz0 zz1 zz2 zz3 zz4
      have D16 := Lib.hid (D15.out.trans (hb.mono D15.out.size))
      have Lx16 := Lib.hid (Lx15.out.below hb)
      have Ly16 := Lib.hid (Ly15.out.below hb)
      have Lz16 := Lib.hid (Lz15.out.below hb)
      have Xx16 := Lib.hid ((hb.block _ (kblock_lt Xx15.out)).trans Xx15.out)
      have Xy16 := Lib.hid ((hb.block _ (kblock_lt Xy15.out)).trans Xy15.out)
      have Xz16 := Lib.hid ((hb.block _ (kblock_lt Xz15.out)).trans Xz15.out)
      clear D15 Lx15 Ly15 Lz15 Xx15 Xy15 Xz15
      clear hb
      have zx0 := kcell Xx16.out 0 _ rfl
      have zx1 := kcell Xx16.out 1 _ rfl
      have zx2 := kcell Xx16.out 2 _ rfl
      have zx3 := kcell Xx16.out 3 _ rfl
      have zx4 := kcell Xx16.out 4 _ rfl
      have zy0 := kcell Xy16.out 0 _ rfl
      have zy1 := kcell Xy16.out 1 _ rfl
      have zy2 := kcell Xy16.out 2 _ rfl
      have zy3 := kcell Xy16.out 3 _ rfl
      have zy4 := kcell Xy16.out 4 _ rfl
      have zz0 := kcell Xz16.out 0 _ rfl
      have zz1 := kcell Xz16.out 1 _ rfl
      have zz2 := kcell Xz16.out 2 _ rfl
      have zz3 := kcell Xz16.out 3 _ rfl
      have zz4 := kcell Xz16.out 4 _ rfl
      have HF := Lib.hid (HB6.out.trans (D16.out.mono HB6.out.size))
      go_wp2
      go_ret
      exact ⟨by rw [show decide (0 < nx) = true from decide_eq_true (by omega)]; rfl, HF.out⟩
end Go.Proofs.YtckammgnmgkieaaGreat
