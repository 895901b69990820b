/-
  law12.ZoneWild: true for any origin, records, name, label.
-/
import Derived.Test.YteppgeiejknhoaaZonN
import Derived.Deep.RegionHeld3
namespace Go.Proofs.Yteppgeiejknhoaa
open Go.RowKit Go.Shelf
set_option maxRecDepth 20000
set_option linter.unusedVariables false
set_option linter.unusedSimpArgs false
theorem goodN_few' {n : Nm} (h : goodN n = true) : fewN n = true := by
  unfold goodN at h; simp only [Bool.and_eq_true] at h; exact h.1
theorem fewN_len' {n : Nm} (h : fewN n = true) : n.length ≤ 140 := by
  unfold fewN at h; simp only [decide_eq_true_eq] at h; exact h.1
theorem star_child {o : Nm} {rs : List Rc} {n : Nm} (x : List UInt8) (h : underN n o = true) (he : existsM o rs n = false) : starM o rs (x :: n) = starM o rs n := by
  unfold starM; rw [enc_child x h he]
theorem source_child {o : Nm} {rs : List Rc} {n : Nm} (x : List UInt8) (h : underN n o = true) (he : existsM o rs n = false) : sourceM o rs (x :: n) = sourceM o rs n := by
  unfold sourceM; rw [star_child x h he]
theorem star_ok {o : Nm} {rs : List Rc} {n : Nm} (hn : NmOK n) (h : n.length < 1048576) : NmOK (starM o rs n) := by
  have h1 := encM_ok (o := o) (rs := rs) hn
  have h2 := encM_len (o := o) (n := n) rs
  refine ⟨by unfold starM; simp; omega, fun x hx => ?_⟩
  unfold starM at hx
  rcases List.mem_cons.1 hx with rfl | hx
  · simp
  · exact h1.2 x hx
set_option maxRecDepth 100000 in
set_option maxHeartbeats 16000000 in
theorem law12_ZoneWild {w : World} (vo vl vn : Value) (s : ByteArray) (o : Nm) (l : List Rc) (n : Nm) (hO : NmArg w vo o) (hL : RowArg w vl l) (hN : NmArg w vn n) (hn43 : n.length < 8796093022208) (hs : s.size ≤ maxLen) :
    Calls Try.prog 4 #[vo, vl, vn, .string s] w fun e w' => e = .returned (.bool true) ∧ Below w.heap.size w w' := by
  have hkn := law12_known w
  have HG1 := Lib.hid (fun (W : World) (hb : Below w.heap.size w W) => law12_Good vo vl o l w W hO hL hb)
  have HG2 := Lib.hid (fun (W : World) (hb : Below w.heap.size w W) => kn_Good vn n _ rfl w W hN (hN.1.below hb))
  obtain ⟨mr, hmr⟩ : ∃ q, s.data.toList :: n = q := ⟨_, rfl⟩
  obtain ⟨km, hkm⟩ : ∃ q, mr.length = q := ⟨_, rfl⟩
  have HCH := Lib.hid (fun (W : World) (hb : Below w.heap.size w W) => kn_NChildW s vn n mr km hmr hkm W (hN.1.below hb) hn43)
  have HMA := Lib.hid (fun (W : World) (v : Value) (h : NmAt W v mr) => (show NmArg W v mr from ⟨h, by rw [← hmr]; unfold maxLen; simp; omega, fun x hx => by
    rw [← hmr] at hx
    rcases List.mem_cons.1 hx with rfl | hx
    · rw [size_data]; exact hs
    · exact hN.2.2 x hx⟩))
  have HMR := Lib.hid hmr
  have HNO := Lib.hid hO.1
  have HNN := Lib.hid hN.1
  have HLR := Lib.hid hL.row
  have HLOK := Lib.hid hL.ok
  obtain ⟨ao, co, rfl, -⟩ := nmAt_sl.1 hO.1
  obtain ⟨qo, hqo⟩ : ∃ q, (List.map strV o).length = q := ⟨_, rfl⟩
  obtain ⟨an, cn, rfl, -⟩ := nmAt_sl.1 hN.1
  obtain ⟨qn, hqn⟩ : ∃ q, (List.map strV n).length = q := ⟨_, rfl⟩
  obtain ⟨al, ml, cl, rfl⟩ : ∃ a m c, vl = .slice a m c := by
    obtain ⟨css, ⟨a, c, e, _⟩, _⟩ := hL
    exact ⟨a, _, c, e⟩
  rw [hqo] at HG1 HNO ⊢
  rw [hqn] at HG2 HNN HCH ⊢
  clear hO hL hN hqo hqn hmr hkm hn43 hs
  go_enter Try.func4, Try.ntmps4
  go_wp2_with fail
  refine hkn.mono ?_
  rintro e w1 ⟨rfl, hb1⟩
  have HB1 := Lib.hid hb1
  have hc := HCH.out w1 hb1
  clear hkn hb1 HCH
  go_wp2_with fail
  refine hc.mono ?_
  rintro e w1' ⟨am, cm, rfl, hm0, hb1⟩
  have HM0 := Lib.hid hm0
  have HB1' := Lib.hid (HB1.out.trans (hb1.mono HB1.out.size))
  have hc := HG1.out w1' HB1'.out
  clear hm0 hb1 HG1 HB1
  go_wp2_with fail
  refine hc.mono ?_
  rintro e w2 ⟨rfl, hb2⟩
  have HM2 := Lib.hid (HM0.out.below hb2)
  have HB2 := Lib.hid (HB1'.out.trans (hb2.mono HB1'.out.size))
  have HMG := Lib.hid (fun (W : World) (hb : Below w1'.heap.size w1' W) => kn_Good (.slice am km cm) mr _ rfl w1' W (HMA.out w1' _ HM0.out) (HM0.out.below hb))
  have HB12 := Lib.hid hb2
  clear hb2 hc HB1' HMA
  obtain ⟨g1, hg1⟩ : ∃ g, (goodN o && goodRs l) = g := ⟨_, rfl⟩
  have HGG1 := Lib.hid hg1
  rw [hg1]
  clear hg1
  cases g1
  · go_wp2
    go_ret
    exact ⟨rfl, HB2.out⟩
  have hc := HG2.out w2 HB2.out
  clear HG2
  go_wp2_with fail
  refine hc.mono ?_
  rintro e w3 ⟨rfl, hb3⟩
  have HB3 := Lib.hid (HB2.out.trans (hb3.mono HB2.out.size))
  have HB13 := Lib.hid (HB12.out.trans (hb3.mono HB12.out.size))
  clear hb3 hc HB2 HB12 HM2
  obtain ⟨g2, hg2⟩ : ∃ g, goodN n = g := ⟨_, rfl⟩
  have HGG2 := Lib.hid hg2
  rw [hg2]
  clear hg2
  cases g2
  · go_wp2
    go_ret
    exact ⟨rfl, HB3.out⟩
  have hc := HMG.out w3 HB13.out
  clear HMG
  go_wp2_with fail
  refine hc.mono ?_
  rintro e w3' ⟨rfl, hb3⟩
  have HB3' := Lib.hid (HB3.out.trans (hb3.mono HB3.out.size))
  have HM3 := Lib.hid (HM0.out.below (HB13.out.trans (hb3.mono HB13.out.size)))
  clear hb3 hc HB3 HB13 HM0
  obtain ⟨g3, hg3⟩ : ∃ g, goodN mr = g := ⟨_, rfl⟩
  have HGG3 := Lib.hid hg3
  rw [hg3]
  clear hg3
  cases g3
  · go_wp2
    go_ret
    exact ⟨rfl, HB3'.out⟩
  have hg := HGG1.out
  simp only [Bool.and_eq_true] at hg
  have hko : NmOK o := fewN_ok (goodN_few' hg.1)
  have hkn : NmOK n := fewN_ok (goodN_few' HGG2.out)
  have hkm : NmOK mr := fewN_ok (goodN_few' HGG3.out)
  have HLN := Lib.hid (fewN_len' (goodN_few' HGG2.out))
  have HLM := Lib.hid (fewN_len' (goodN_few' HGG3.out))
  have hfr : fewRs l = true := by
    have := hg.2
    unfold goodRs at this; simp only [Bool.and_eq_true] at this; exact this.1
  obtain ⟨hl60, hokl⟩ := HLOK.out hfr
  have HKO := Lib.hid hko; have HKN := Lib.hid hkn; have HKM := Lib.hid hkm; have HOKL := Lib.hid hokl; have HL60 := Lib.hid hl60
  have hc := kn_NUnder (.slice an qn cn) (.slice ao qo co) n o _ rfl w3' (HNN.out.below HB3'.out) (HNO.out.below HB3'.out) hkn hko
  clear hg hko hkn hkm hfr hl60 hokl HLOK HGG1 HGG2 HGG3
  go_wp2_with fail
  refine hc.mono ?_
  rintro e w4 ⟨rfl, hb4⟩
  have HB4 := Lib.hid (HB3'.out.trans (hb4.mono HB3'.out.size))
  have HM4 := Lib.hid (HM3.out.below hb4)
  clear hb4 hc HB3' HM3
  obtain ⟨u, hu⟩ : ∃ g, underN n o = g := ⟨_, rfl⟩
  have HU := Lib.hid hu
  rw [hu]
  clear hu
  cases u
  · go_wp2
    go_ret
    exact ⟨rfl, HB4.out⟩
  have hc := zone_New (.slice ao qo co) (.slice al ml cl) o l (HNO.out.below HB4.out) HKO.out (HLR.out.below HB4.out) HOKL.out (by have := HL60.out; omega)
  obtain ⟨C, hC⟩ : ∃ C, canonM l = C := ⟨_, rfl⟩
  rw [hC] at hc
  clear hC HOKL HL60 HLR
  go_wp2_with fail
  refine hc.mono ?_
  rintro e w5 ⟨za, zn, zc, v1, m, c, rfl, hZ, hb5⟩
  have hA5 := (Below.refl w5.heap.size w5).alloc (Nat.le_refl _) (.cells #[.slice za zn zc, .slice v1 m c] 30)
  obtain ⟨zb, hzb⟩ : ∃ zb, w5.heap.size = zb := ⟨_, rfl⟩
  obtain ⟨w6, hw6⟩ : ∃ w6, w5.alloc (.cells #[.slice za zn zc, .slice v1 m c] 30) = w6 := ⟨_, rfl⟩
  have hX := knew w5 (.cells #[.slice za zn zc, .slice v1 m c] 30)
  rw [hw6] at hA5 hX
  rw [hzb] at hX
  have hb56 := hb5.trans (hA5.mono hb5.size)
  have HB6 := Lib.hid (HB4.out.trans (hb56.mono HB4.out.size))
  have HZ := Lib.hid (fun W (hb : Below w6.heap.size w6 W) => ((hZ.below hA5).below hb : ZonS W za zn zc v1 m c o C))
  have HY := Lib.hid (fun W (hb : Below w6.heap.size w6 W) => And.intro (kcell ((hb.block _ (kblock_lt hX)).trans hX) 0 _ rfl) (kcell ((hb.block _ (kblock_lt hX)).trans hX) 1 _ rfl))
  have HNW := Lib.hid (fun W (hb : Below w6.heap.size w6 W) => HNN.out.below (HB6.out.trans (hb.mono HB6.out.size)))
  have HMW := Lib.hid (fun W (hb : Below w6.heap.size w6 W) => HM4.out.below (hb56.trans (hb.mono hb56.size)))
  have hcc := zone_Exists (HZ.out w6 (Below.refl _ _)) (HNW.out w6 (Below.refl _ _)) HKN.out
  obtain ⟨y0, y1⟩ := HY.out w6 (Below.refl _ _)
  obtain ⟨E, hE⟩ : ∃ E, existsM o C n = E := ⟨_, rfl⟩
  have HE := Lib.hid hE
  rw [hE] at hcc
  clear hc hZ hb5 hA5 hX hb56 HB4 HNO HKO HM4 hE
  go_wp2_with fail
  clear hw6 hzb
  refine hcc.mono ?_
  rintro e w7 ⟨rfl, hb7⟩
  have HB7 := Lib.hid hb7
  clear hcc y0 y1 hb7
  cases E
  rotate_left
  · go_wp2
    go_ret
    exact ⟨rfl, HB6.out.trans (HB7.out.mono HB6.out.size)⟩
  have hch := HMR.out
  have HX := Lib.hid (show sourceM o C mr = sourceM o C n ∧ starM o C mr = starM o C n ∧ existsM o C mr = false ∧ encM o C mr = encM o C n ∧ existsM o C (encM o C n) = true from by
    rw [← hch]
    exact ⟨source_child _ HU.out HE.out, star_child _ HU.out HE.out, (depth_child _ HU.out HE.out).2.1, enc_child _ HU.out HE.out, enc_exists HU.out⟩)
  clear hch
  have HKS := Lib.hid (star_ok (o := o) (rs := C) HKN.out (by have := HLN.out; omega))
  have HKE := Lib.hid (encM_ok (o := o) (rs := C) HKN.out)
  have hcs := zone_Source (HZ.out w7 HB7.out) (HNW.out w7 HB7.out) HKN.out (by have := HLN.out; omega)
  obtain ⟨B, hB⟩ : ∃ B, sourceM o C n = B := ⟨_, rfl⟩
  have HB := Lib.hid hB
  rw [hB] at hcs
  clear hB
  obtain ⟨y0, y1⟩ := HY.out w7 HB7.out
  go_wp2_with fail
  refine hcs.mono ?_
  rintro e w8 ⟨a8, k8, c8, rfl, h8, hb8⟩
  have HB8 := Lib.hid (HB7.out.trans (hb8.mono HB7.out.size))
  have HA8 := Lib.hid h8
  clear hcs y0 y1 h8 hb8 HB7
  have hcs := zone_Source (HZ.out w8 HB8.out) (HMW.out w8 HB8.out) HKM.out (by have := HLM.out; omega)
  rw [HX.out.1, HX.out.2.1, HB.out] at hcs
  obtain ⟨y0, y1⟩ := HY.out w8 HB8.out
  go_wp2_with fail
  refine hcs.mono ?_
  rintro e w9 ⟨a9, k9, c9, rfl, h9, hb9⟩
  have HB9 := Lib.hid (HB8.out.trans (hb9.mono HB8.out.size))
  have HA9 := Lib.hid (HA8.out.below hb9)
  have HC9 := Lib.hid h9
  clear hcs y0 y1 h9 hb9 HB8 HA8
  have hce := zone_Encloser (HZ.out w9 HB9.out) (HNW.out w9 HB9.out) HKN.out
  obtain ⟨y0, y1⟩ := HY.out w9 HB9.out
  go_wp2_with fail
  refine hce.mono ?_
  rintro e wa ⟨aa, ka, ca, rfl, ha, hba⟩
  have HBA := Lib.hid (HB9.out.trans (hba.mono HB9.out.size))
  have HAA := Lib.hid (HA9.out.below hba)
  have HCA := Lib.hid (HC9.out.below hba)
  have HEA := Lib.hid ha
  clear hce y0 y1 ha hba HB9 HA9 HC9
  have hcx := zone_Exists (HZ.out wa HBA.out) (HMW.out wa HBA.out) HKM.out
  rw [HX.out.2.2.1] at hcx
  obtain ⟨y0, y1⟩ := HY.out wa HBA.out
  go_wp2_with fail
  refine hcx.mono ?_
  rintro e wb ⟨rfl, hbb⟩
  have HBB := Lib.hid (HBA.out.trans (hbb.mono HBA.out.size))
  have HABb := Lib.hid hbb
  clear hcx y0 y1 hbb
  have HOKA := Lib.hid (show NmOK (if B then starM o C n else []) from by
    cases B
    · exact ⟨Nat.zero_le _, by simp⟩
    · exact HKS.out)
  have hcs := kn_NSame (.slice a8 k8 c8) (.slice a9 k9 c9) _ _ true (sameN_refl (if B then starM o C n else [])) wb (HAA.out.below HABb.out) (HCA.out.below HABb.out) HOKA.out HOKA.out
  clear HCA
  have HBW : Hid (∃ bb : Bool, (B == B) = true) := Lib.hid ⟨B, by simp⟩
  go_wp2_with fail
  refine hcs.mono ?_
  rintro e wc ⟨rfl, hbc⟩
  have HBC := Lib.hid (HBB.out.trans (hbc.mono HBB.out.size))
  have HAC := Lib.hid (HABb.out.trans (hbc.mono HABb.out.size))
  clear hcs hbc HBB HABb
  have hcx := zone_Exists (n := encM o C n) (HZ.out wc HBC.out) (HEA.out.below HAC.out) HKE.out
  rw [HX.out.2.2.2.2] at hcx
  obtain ⟨y0, y1⟩ := HY.out wc HBC.out
  go_wp2_with fail
  refine hcx.mono ?_
  rintro e wd ⟨rfl, hbd⟩
  have HBD := Lib.hid (HBC.out.trans (hbd.mono HBC.out.size))
  have HAD := Lib.hid (HAC.out.trans (hbd.mono HAC.out.size))
  clear hcx y0 y1 hbd HBC HAC
  have hce := zone_Encloser (HZ.out wd HBD.out) (HMW.out wd HBD.out) HKM.out
  rw [HX.out.2.2.2.1] at hce
  obtain ⟨y0, y1⟩ := HY.out wd HBD.out
  go_wp2_with fail
  refine hce.mono ?_
  rintro e we ⟨ae, ke, ce, rfl, he, hbe⟩
  have HBE := Lib.hid (HBD.out.trans (hbe.mono HBD.out.size))
  have HAE := Lib.hid (HAD.out.trans (hbe.mono HAD.out.size))
  clear hce y0 y1 hbe HBD HAD
  have hcs := kn_NSame (.slice aa ka ca) (.slice ae ke ce) _ _ true (sameN_refl (encM o C n)) we (HEA.out.below HAE.out) he HKE.out HKE.out
  clear he
  go_wp2_with fail
  refine hcs.mono ?_
  rintro e wf ⟨rfl, hbf⟩
  have HBF := Lib.hid (HBE.out.trans (hbf.mono HBE.out.size))
  have HAF := Lib.hid (HAE.out.trans (hbf.mono HAE.out.size))
  clear hcs hbf HBE HAE
  cases B
  · go_wp2
    go_ret
    exact ⟨rfl, HB6.out.trans (HBF.out.mono HB6.out.size)⟩
  have HST := Lib.hid (fun (W : World) (hb : Below wa.heap.size wa W) => (HAA.out.below hb : NmAt W (.slice a8 k8 c8) (starM o C n)))
  have hcw := kn_NWild (.slice a8 k8 c8) (starM o C n) true (by unfold starM wildN; rfl) wf (HST.out wf HAF.out) HKS.out
  go_wp2_with fail
  refine hcw.mono ?_
  rintro e wg ⟨rfl, hbg⟩
  have HBG := Lib.hid (HBF.out.trans (hbg.mono HBF.out.size))
  have HAG := Lib.hid (HAF.out.trans (hbg.mono HAF.out.size))
  clear hcw hbg HBF HAF
  have hcp := kn_NParent (.slice a8 k8 c8) (starM o C n) (encM o C n) _ rfl rfl wg (HST.out wg HAG.out) HKS.out
  obtain ⟨kp, hkp⟩ : ∃ q, (encM o C n).length = q := ⟨_, rfl⟩
  rw [hkp] at hcp
  clear hkp
  go_wp2_with fail
  refine hcp.mono ?_
  rintro e wh ⟨ah, ch, rfl, hh, hbh⟩
  have HBH := Lib.hid (HBG.out.trans (hbh.mono HBG.out.size))
  have HAH := Lib.hid (HAG.out.trans (hbh.mono HAG.out.size))
  clear hcp hbh HBG HAG
  have hcs := kn_NSame (.slice ah kp ch) (.slice aa ka ca) _ _ true (sameN_refl (encM o C n)) wh hh (HEA.out.below HAH.out) HKE.out HKE.out
  clear hh
  go_wp2_with fail
  refine hcs.mono ?_
  rintro e wi ⟨rfl, hbi⟩
  have HBI := Lib.hid (HBH.out.trans (hbi.mono HBH.out.size))
  clear hcs hbi HBH
  go_wp2
  go_ret
  exact ⟨rfl, HB6.out.trans (HBI.out.mono HB6.out.size)⟩
end Go.Proofs.Yteppgeiejknhoaa
