/-
  law14.LookTypes: true for any zone and query. (Written by wip/tools/gen14l.py.)
-/
import Derived.Test.YtckammgnmgkieaaGreatMQ23
namespace Go.Proofs.YtckammgnmgkieaaGreat
open Go.RowKit Go.Shelf
set_option maxRecDepth 20000
set_option linter.unusedVariables false
set_option linter.unusedSimpArgs false
set_option maxRecDepth 100000 in
set_option maxHeartbeats 16000000 in
theorem law14_LookTypes {w : World} (vo vl vq : Value) (o : Nm) (l : List Rc) (q : Nm) (hO : NmArg w vo o) (hL : RowArg w vl l) (hQ : NmArg w vq q) (t u : Int) :
    Calls Tryz.prog 10 #[vo, vl, vq, .int .i64 t, .int .i64 u] w fun e w' => e = .returned (.bool true) ∧ Below w.heap.size w w' := by
  have hkn := law14_known w
  have HG1 := Lib.hid (fun (W : World) (hb : Below w.heap.size w W) => law12_Good vo vl o l w W hO hL hb)
  have HG2 := Lib.hid (fun (W : World) (hb : Below w.heap.size w W) => kn_Good vq q _ rfl w W hQ (hQ.1.below hb))
  have HNO := Lib.hid hO.1
  have HNQ := Lib.hid hQ.1
  have HLR := Lib.hid hL.row
  have HLOK := Lib.hid hL.ok
  obtain ⟨ao, co, rfl, -⟩ := nmAt_sl.1 hO.1
  obtain ⟨qo, hqo⟩ : ∃ k, (List.map strV o).length = k := ⟨_, rfl⟩
  obtain ⟨aq, cq, rfl, -⟩ := nmAt_sl.1 hQ.1
  obtain ⟨qn, hqn⟩ : ∃ k, (List.map strV q).length = k := ⟨_, rfl⟩
  obtain ⟨al, ml, cl, rfl⟩ : ∃ a m c, vl = .slice a m c := by
    obtain ⟨css, ⟨a, c, e, _⟩, _⟩ := hL
    exact ⟨a, _, c, e⟩
  rw [hqo] at HG1 HNO ⊢
  rw [hqn] at HG2 HNQ ⊢
  clear hO hL hQ hqo hqn
  go_enter Tryz.func10, Tryz.ntmps10
  go_wp2_with fail
  refine hkn.mono ?_
  rintro e w1 ⟨rfl, hb1⟩
  have HB1 := Lib.hid hb1
  have hc := HG1.out w1 hb1
  clear hkn hb1 HG1
  go_wp2_with fail
  refine hc.mono ?_
  rintro e w2 ⟨rfl, hb2⟩
  have HB2 := Lib.hid (HB1.out.trans (hb2.mono HB1.out.size))
  clear hb2 hc HB1
  obtain ⟨g1, hg1⟩ : ∃ g, (goodN o && goodRs l) = g := ⟨_, rfl⟩
  have HGG1 := Lib.hid hg1
  rw [hg1]
  clear hg1
  cases g1
  · go_wp2
    go_ret
    exact ⟨rfl, HB2.out⟩
  have hc := HG2.out w2 HB2.out
  clear HG2
  go_wp2_with fail
  refine hc.mono ?_
  rintro e w3 ⟨rfl, hb3⟩
  have HB3 := Lib.hid (HB2.out.trans (hb3.mono HB2.out.size))
  clear hb3 hc HB2
  obtain ⟨g2, hg2⟩ : ∃ g, goodN q = g := ⟨_, rfl⟩
  have HGG2 := Lib.hid hg2
  rw [hg2]
  clear hg2
  cases g2
  · go_wp2
    go_ret
    exact ⟨rfl, HB3.out⟩
  have hg := HGG1.out
  simp only [Bool.and_eq_true] at hg
  have hko : NmOK o := fewN_ok (goodN_few' hg.1)
  have hkq : NmOK q := fewN_ok (goodN_few' HGG2.out)
  have hlq := fewN_len' (goodN_few' HGG2.out)
  have hfr : fewRs l = true := by
    have := hg.2
    unfold goodRs at this; simp only [Bool.and_eq_true] at this; exact this.1
  obtain ⟨hl60, hokl⟩ := HLOK.out hfr
  have HALL := Lib.hid (hall_few2 (rs := canonM l) (goodN_few' HGG2.out) (canon_fewL hfr))
  have HFEW := Lib.hid (goodN_few' HGG2.out); have HCF := Lib.hid (canon_fewL hfr)
  have HOKC := Lib.hid (canonM_ok' l hokl)
  have HCL := Lib.hid (show (canonM l).length ≤ 60 by have := canonM_length l; omega)
  have HKO := Lib.hid hko; have HKQ := Lib.hid hkq; have HOKL := Lib.hid hokl; have HL60 := Lib.hid hl60
  have HLQ := Lib.hid (show q.length < 1048576 by omega)
  clear hg hko hkq hfr hl60 hokl hlq HLOK HGG1 HGG2
  have hc := zone_New (.slice ao qo co) (.slice al ml cl) o l (HNO.out.below HB3.out) HKO.out (HLR.out.below HB3.out) HOKL.out (by have := HL60.out; omega)
  obtain ⟨C, hC⟩ : ∃ C, canonM l = C := ⟨_, rfl⟩
  rw [hC] at hc HALL HOKC HCL HCF
  clear hC HOKL HL60 HLR
  go_wp2_with fail
  refine hc.mono ?_
  rintro e w5 ⟨za, zn, zc, v1, m, c, rfl, hZ, hb5⟩
  have hA5 := (Below.refl w5.heap.size w5).alloc (Nat.le_refl _) (.cells #[.slice za zn zc, .slice v1 m c] 57)
  obtain ⟨zb, hzb⟩ : ∃ zb, w5.heap.size = zb := ⟨_, rfl⟩
  obtain ⟨w6, hw6⟩ : ∃ w6, w5.alloc (.cells #[.slice za zn zc, .slice v1 m c] 57) = w6 := ⟨_, rfl⟩
  have hX := knew w5 (.cells #[.slice za zn zc, .slice v1 m c] 57)
  rw [hw6] at hA5 hX
  rw [hzb] at hX
  have hb56 := hb5.trans (hA5.mono hb5.size)
  have HB6 := Lib.hid (HB3.out.trans (hb56.mono HB3.out.size))
  have HZ := Lib.hid (fun W (hb : Below w6.heap.size w6 W) => ((hZ.below hA5).below hb : ZonS W za zn zc v1 m c o C))
  have HY := Lib.hid (fun W (hb : Below w6.heap.size w6 W) => And.intro (kcell ((hb.block _ (kblock_lt hX)).trans hX) 0 _ rfl) (kcell ((hb.block _ (kblock_lt hX)).trans hX) 1 _ rfl))
  have HQW := Lib.hid (fun W (hb : Below w6.heap.size w6 W) => HNQ.out.below (HB6.out.trans (hb.mono HB6.out.size)))
  have HLK := Lib.hid (fun (W : World) (hb : Below w6.heap.size w6 W) (u : Int) => look_Zone u (HZ.out W hb) (HQW.out W hb) HKQ.out HLQ.out HALL.out)
  have HLO := Lib.hid (fun (u : Int) => lookM_ok (o := o) u HKQ.out HOKC.out (by have := HCL.out; omega) HALL.out)
  clear hc hZ hb5 hA5 hX hb56 HB3 HNO HKO
  have D6 := Lib.hid (Below.refl w6.heap.size w6)
  obtain ⟨y0, y1⟩ := HY.out w6 D6.out
  have hc := HLK.out w6 D6.out t
  obtain ⟨Rx, hR⟩ : ∃ R, lookM o C q t = R := ⟨_, rfl⟩
  have HRx := Lib.hid hR
  rw [hR] at hc
  clear hR
  go_wp2_with fail
  clear hw6 hzb
  refine hc.mono ?_
  rintro e w7 ⟨cs, rfl, hk, hb⟩
  obtain ⟨a1x, c1x, a2x, c2x, a4x, c4x, rfl⟩ := (hk _ (FarKeep.refl _ _)).lens
  have hl := hk _ (FarKeep.refl _ _)
  obtain ⟨kx, hk⟩ : ∃ z, Rx.kind = z := ⟨_, rfl⟩
  have HKx := Lib.hid hk
  rw [hk] at hl ⊢
  clear hk
  obtain ⟨nx, hn⟩ : ∃ z, Rx.data.length = z := ⟨_, rfl⟩
  have HNx := Lib.hid hn
  rw [hn] at hl ⊢
  clear hn
  obtain ⟨mx, hm⟩ : ∃ z, Rx.name.length = z := ⟨_, rfl⟩
  have HMx := Lib.hid hm
  rw [hm] at hl ⊢
  clear hm
  obtain ⟨ex, he⟩ : ∃ z, Rx.wild = z := ⟨_, rfl⟩
  have HEx := Lib.hid he
  rw [he] at hl ⊢
  clear he
  obtain ⟨gx, hg⟩ : ∃ z, Rx.glue.length = z := ⟨_, rfl⟩
  have HGx := Lib.hid hg
  rw [hg] at hl ⊢
  clear hg
  clear hk hc y0 y1
  have D7 := Lib.hid (D6.out.trans (hb.mono D6.out.size))
  clear D6 
  clear hb
  have hA := (Below.refl w7.heap.size w7).alloc (Nat.le_refl _) (.cells #[.int .i64 kx, .slice a1x nx c1x, .slice a2x mx c2x, .bool ex, .slice a4x gx c4x] 84)
  obtain ⟨Bx, hx8⟩ : ∃ b, w7.heap.size = b := ⟨_, rfl⟩
  obtain ⟨w8, hW8⟩ : ∃ W, w7.alloc (.cells #[.int .i64 kx, .slice a1x nx c1x, .slice a2x mx c2x, .bool ex, .slice a4x gx c4x] 84) = W := ⟨_, rfl⟩
  have hX := knew w7 (.cells #[.int .i64 kx, .slice a1x nx c1x, .slice a2x mx c2x, .bool ex, .slice a4x gx c4x] 84)
  rw [hW8] at hA hX
  rw [hx8] at hX
  have D8 := Lib.hid (D7.out.trans (hA.mono D7.out.size))
  clear D7 
  have Xx8 := Lib.hid hX
  have Lx8 := Lib.hid (hl.below hA)
  clear hA hX hl
  obtain ⟨y0, y1⟩ := HY.out w8 D8.out
  have hc := HLK.out w8 D8.out u
  obtain ⟨Ry, hR⟩ : ∃ R, lookM o C q u = R := ⟨_, rfl⟩
  have HRy := Lib.hid hR
  rw [hR] at hc
  clear hR
  go_wp2_with fail
  clear hW8 hx8
  refine hc.mono ?_
  rintro e w9 ⟨cs, rfl, hk, hb⟩
  obtain ⟨a1y, c1y, a2y, c2y, a4y, c4y, rfl⟩ := (hk _ (FarKeep.refl _ _)).lens
  have hl := hk _ (FarKeep.refl _ _)
  obtain ⟨ky, hk⟩ : ∃ z, Ry.kind = z := ⟨_, rfl⟩
  have HKy := Lib.hid hk
  rw [hk] at hl ⊢
  clear hk
  obtain ⟨ny, hn⟩ : ∃ z, Ry.data.length = z := ⟨_, rfl⟩
  have HNy := Lib.hid hn
  rw [hn] at hl ⊢
  clear hn
  obtain ⟨my, hm⟩ : ∃ z, Ry.name.length = z := ⟨_, rfl⟩
  have HMy := Lib.hid hm
  rw [hm] at hl ⊢
  clear hm
  obtain ⟨ey, he⟩ : ∃ z, Ry.wild = z := ⟨_, rfl⟩
  have HEy := Lib.hid he
  rw [he] at hl ⊢
  clear he
  obtain ⟨gy, hg⟩ : ∃ z, Ry.glue.length = z := ⟨_, rfl⟩
  have HGy := Lib.hid hg
  rw [hg] at hl ⊢
  clear hg
  clear hk hc y0 y1
  have D9 := Lib.hid (D8.out.trans (hb.mono D8.out.size))
  have Lx9 := Lib.hid (Lx8.out.below hb)
  have Xx9 := Lib.hid ((hb.block _ (kblock_lt Xx8.out)).trans Xx8.out)
  clear D8 Lx8 Xx8
  clear hb
  have hA := (Below.refl w9.heap.size w9).alloc (Nat.le_refl _) (.cells #[.int .i64 ky, .slice a1y ny c1y, .slice a2y my c2y, .bool ey, .slice a4y gy c4y] 84)
  obtain ⟨By, hx10⟩ : ∃ b, w9.heap.size = b := ⟨_, rfl⟩
  obtain ⟨w10, hW10⟩ : ∃ W, w9.alloc (.cells #[.int .i64 ky, .slice a1y ny c1y, .slice a2y my c2y, .bool ey, .slice a4y gy c4y] 84) = W := ⟨_, rfl⟩
  have hX := knew w9 (.cells #[.int .i64 ky, .slice a1y ny c1y, .slice a2y my c2y, .bool ey, .slice a4y gy c4y] 84)
  rw [hW10] at hA hX
  rw [hx10] at hX
  have D10 := Lib.hid (D9.out.trans (hA.mono D9.out.size))
  have Lx10 := Lib.hid (Lx9.out.below hA)
  have Xx10 := Lib.hid ((hA.block _ (kblock_lt Xx9.out)).trans Xx9.out)
  clear D9 Lx9 Xx9
  have Xy10 := Lib.hid hX
  have Ly10 := Lib.hid (hl.below hA)
  clear hA hX hl
  have hT := look_types o C q t u
  rw [HRx.out, HRy.out] at hT
  obtain ⟨hT1, hT2, hT3, hT4, hT5⟩ := hT
  rw [HKx.out, HKy.out] at hT2 hT3 hT4 hT5
  rw [HKx.out] at hT1
  have HT1 := Lib.hid hT1; have HT2 := Lib.hid hT2; have HT3 := Lib.hid hT3; have HT4 := Lib.hid hT4; have HT5 := Lib.hid hT5
  have hkx := lookM_kinds o C q t
  have hky := lookM_kinds o C q u
  rw [HRx.out, HKx.out] at hkx
  rw [HRy.out, HKy.out] at hky
  have HKX := Lib.hid hkx; have HKY := Lib.hid hky
  have hln : nx ≤ 1048576 := by
    have h := (HLO.out t).2.1
    rw [HRx.out, HNx.out] at h; exact h
  clear hT1 hT2 hT3 hT4 hT5 hkx hky HLK HZ HQW HALL HOKC HCL HKQ HLQ HNQ HFEW HCF HLO HY
  have zx0 := kcell Xx10.out 0 _ rfl
  have zx1 := kcell Xx10.out 1 _ rfl
  go_wp2_with fail
  clear hW10 hx10 zx0 zx1
  go_loopw [14, 15] (fun vi vk wr => ∃ k : Nat, vi = .int .i64 k ∧ k ≤ nx ∧ Hid (Below w10.heap.size w10 wr)) (fun vi _ _ => nx - (intOf vi).toNat)
  case atStart => exact ⟨0, rfl, Nat.zero_le _, Lib.hid (Below.refl _ _)⟩
  case round =>
    obtain ⟨k, rfl, hk, HB⟩ := hrel
    have Lxr := Lib.hid (Lx10.out.below HB.out)
    have Lyr := Lib.hid (Ly10.out.below HB.out)
    have Xxr := Lib.hid ((HB.out.block _ (kblock_lt Xx10.out)).trans Xx10.out)
    have Xyr := Lib.hid ((HB.out.block _ (kblock_lt Xy10.out)).trans Xy10.out)
    have Dr := Lib.hid (D10.out.trans (HB.out.mono D10.out.size))
    by_cases hlt : k < nx
    · have hltz : (k : Int) < (nx : Int) := by omega
      obtain ⟨gb, gof, rfl, hcn, hel⟩ := Lxr.out.types (by have := HNx.out; omega)
      have hk1 : k < Rx.data.length := by have := HNx.out; omega
      have hq := hel k hk1 _ (Below.refl _ _)
      have hty := HT1.out _ (List.getElem_mem hk1)
      obtain ⟨τ, hτ⟩ : ∃ z, (Rx.data[k]'hk1).ty = z := ⟨_, rfl⟩
      rw [hτ] at hq hty
      have HTY := Lib.hid hty
      clear hel hτ hty hk1
      have zx0 := kcell Xxr.out 0 _ rfl
      have zx1 := kcell Xxr.out 1 _ rfl
      by_cases hk1 : kx = 1
      · subst hk1
        obtain rfl : τ = t := HTY.out.1 rfl
        go_wp2
        go_roundw
        case measure => simp [intOf]; omega
        case rel => exact ⟨k + 1, by go_num, by omega, HB⟩
      by_cases hk4 : kx = 4
      · subst hk4
        obtain rfl : τ = 2 := HTY.out.2.1 rfl
        go_wp2
        go_roundw
        case measure => simp [intOf]; omega
        case rel => exact ⟨k + 1, by go_num, by omega, HB⟩
      by_cases hk5 : kx = 5
      · subst hk5
        rcases HTY.out.2.2 rfl with rfl | rfl
        all_goals
          go_wp2
          go_roundw
          case measure => simp [intOf]; omega
          case rel => exact ⟨k + 1, by go_num, by omega, HB⟩
      have e1 : (kx == 1) = false := by simpa using hk1
      have e4 : (kx == 4) = false := by simpa using hk4
      have e5 : (kx == 5) = false := by simpa using hk5
      clear hk1 hk4 hk5
      go_wp2
      go_roundw
      case measure => simp [intOf]; omega
      case rel => exact ⟨k + 1, by go_num, by omega, HB⟩
    · obtain rfl : k = nx := by omega
      have zx0 := kcell Xxr.out 0 _ rfl
      have zx1 := kcell Xxr.out 1 _ rfl
      have zy0 := kcell Xyr.out 0 _ rfl
      have hfin : Below w.heap.size w wr := HB6.out.trans (Dr.out.mono HB6.out.size)
      have HF := Lib.hid hfin
      clear hfin
      have h12 : ((kx = 1 ∨ kx = 2) ∧ (ky = 1 ∨ ky = 2 ∨ ky = 5)) ∨ (kx = 3 ∧ ky = 3) ∨ (kx = 4 ∧ ky = 4) ∨ (kx = 7 ∧ ky = 7) ∨ ((kx = 5 ∨ kx = 6) ∧ ky ≠ 3 ∧ ky ≠ 4 ∧ ky ≠ 7) := by
        have h1 := HKX.out; have h2 := HT2.out; have h3 := HT3.out; have h4 := HT4.out; have h5 := HT5.out
        rcases h1 with h | h | h | h | h | h | h <;> subst h <;> simp_all
      rcases h12 with ⟨h1, h2⟩ | ⟨rfl, rfl⟩ | ⟨rfl, rfl⟩ | ⟨rfl, rfl⟩ | ⟨h1, h3, h4, h7⟩
      · rcases h1 with rfl | rfl <;> rcases h2 with rfl | rfl | rfl
        all_goals
          go_wp2
          go_ret
          exact ⟨rfl, HF.out⟩
      · go_wp2
        go_ret
        exact ⟨rfl, HF.out⟩
      · go_wp2
        go_ret
        exact ⟨rfl, HF.out⟩
      · go_wp2
        go_ret
        exact ⟨rfl, HF.out⟩
      · have e3 : (ky == 3) = false := by simpa using h3
        have e4 : (ky == 4) = false := by simpa using h4
        have e7 : (ky == 7) = false := by simpa using h7
        clear h3 h4 h7
        rcases h1 with rfl | rfl
        all_goals
          go_wp2
          go_ret
          exact ⟨rfl, HF.out⟩
end Go.Proofs.YtckammgnmgkieaaGreat
