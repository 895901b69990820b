import Derived.Test.YtnpnfajgphpabaaGreatMQ26
import Derived.Test.YtnpnfajgphpabaaGreatMQ09
namespace Go.Proofs.YtnpnfajgphpabaaGreat
set_option linter.unusedVariables false
set_option linter.unusedSimpArgs false
set_option maxRecDepth 1000000
set_option maxHeartbeats 16000000
open Go.RowKit Go.Shelf
noncomputable def qiW : Code := (Tryz.f9.body.bind (qbt 14)).getD .skip
theorem qjW {w0 w W2 w5 : World} {za v1 : Option Addr} {zn zc m c : Nat} {o ow : Nm} {rs : List Rc} {B Bs N0 M : Nat} {p0 p3 : Option Addr} {q0 r0 q3 r3 : Nat} {ty tt wv : Int} {oth cov sm wl adr k4 k5 k6 k7 k8 k9 : Bool} {ga : Option Addr} {gm gc : Nat} {F0 GR : List Fl}
 (HY : Hid (∀ W, Below W2.heap.size W2 W → W.heap[B]? = some (.cells #[.slice za zn zc, .slice v1 m c] 37)))
 (HBW : Hid (∀ W, Below W2.heap.size W2 W → Below w.heap.size w W))
 (HSX : Hid (∀ W, Below W2.heap.size W2 W → W.heap[Bs]? = some (.cells #[.slice p0 q0 r0, .int .i64 ty, .int .u32 tt, .slice p3 q3 r3] 80)))
 (CCs : Hid (∀ W, Below w.heap.size w W → Calls Tryz.prog 31 #[.agg #[.slice za zn zc, .slice v1 m c], .slice p0 q0 r0] W fun e w' => e = .returned (.bool cov) ∧ Below W.heap.size W w'))
 (CTs : Hid (∀ W, Below w.heap.size w W → Calls Tryz.prog 30 #[.slice v1 m c, .slice p0 q0 r0] W (TyPost W (typesM ow rs))))
 (CNs : Hid (∀ W, Below w.heap.size w W → Calls Tryz.prog 17 #[.slice p0 q0 r0, .slice za zn zc] W fun e w' => e = .returned (.bool sm) ∧ Below W.heap.size W w'))
 (CLs : Hid (∀ W, Below w.heap.size w W → Calls Tryz.prog 32 #[.slice p0 q0 r0] W fun e w' => e = .returned (.bool wl) ∧ Below W.heap.size W w'))
 (CA : Hid (∀ (v : Value) (l : List Fl) (x0 : Option Addr) (x1 x2 : Nat) (f : Fl) (N : Nat), NmAt w0 (.slice x0 x1 x2) f.owner → NmOK f.owner → FOK l N → N ≤ 1000000 → ∀ W, Below w.heap.size w W → FlRow w0 W v l → Calls Tryz.prog 26 #[v, .agg #[.int .i64 f.kind, .slice x0 x1 x2, .int .i64 f.ty]] W (qaK w0 W (addF l f))))
 (HTYS : Hid (decide (1 < (typesM ow rs).length) = oth))
 (H4 : Hid ((decide (wv = 0) || (decide (ty = 6) && !sm)) = k4)) (H5 : Hid ((decide (ty = 5) && oth) = k5)) (H6 : Hid (((decide (ty = 5) || decide (ty = 39)) && decide (1 < q3)) = k6))
 (HAD : Hid ((decide (ty = 1) || decide (ty = 28)) = adr)) (H7 : Hid ((!adr && ((decide (wv = 2) && !decide (ty = 2)) || decide (wv = 3))) = k7)) (H8 : Hid ((decide (wv = 1) && cov) = k8)) (H9 : Hid ((decide (ty = 2) && wl) = k9))
 (HFK : Hid (GR = (addB k9 (addB k8 (addB k7 (addB k6 (addB k5 (addB k4 F0 ⟨4, ow, ty⟩) ⟨5, ow, ty⟩) ⟨6, ow, ty⟩) ⟨7, ow, ty⟩) ⟨8, ow, ty⟩) ⟨9, ow, ty⟩))) (HOW : Hid (NmAt w0 (.slice p0 q0 r0) ow)) (HOK : Hid (NmOK ow)) (HN0 : Hid (N0 ≤ 700000)) (HM : Hid (N0 + 6 = M))
 (HK : Hid (KX W2 w0 w5 (.slice ga gm gc) F0)) (HFB : Hid (FOK F0 N0)) (x0 x2 x4 x5 x8 x9 x10 x11 x12 x13 x14 x15 x16 x17 x18 x19 x20 x21 x22 x23 x24 x25 x26 x27 x28 x29 x30 x31 x32 x33 x34 x35 x36 x37 x38 x39 x40 x41 x42 x43 x44 x45 x46 x47 x48 x49 x50 x51 x52 x53 x54 x55 x56 x57 x58 x59 x60 x61 x62 x63 x64 x65 x66 x67 x68 x69 x70 x71 x72 x73 x74 x75 x76 x77 x78 x79 x80 x81 x82 x83 x84 x85 x86 x87 x88 x89 x90 x91 x92 x93 x94 x95 x96 x97 x98 x99 x100 x101 x102 x103 x104 x105 x106 x107 x108 x109 x110 x111 x112 x113 x114 x115 x116 x117 x118 x119 x120 x121 x122 x123 x124 x125 x126 x127 x128 x129 x130 x131 x132 x133 x134 x135 x136 x137 x138 x139 x140 x141 x142 x143 x144 x145 x146 x147 x148 x149 x150 x151 x152 x153 x154 x155 x156 x157 x158 x159 x160 x161 x162 x163 x164 x165 x166 x167 x168 x169 x170 x171 x172 x173 x174 x175 x176 x177 x178 x179 x180 x181 x182 x183 : Value) (Q : Exit → Act → World → Prop)
 (hQ : ∀ (a : Option Addr) (m c : Nat) (y8 y43 y44 y45 y46 y47 y48 y49 y50 y51 y52 y53 y54 y55 y56 y57 y58 y59 y60 y61 y62 y63 y64 y65 y66 y67 y68 y69 y70 y71 y72 y73 y74 y75 y76 y77 y78 y79 y80 y81 y82 y83 y84 y85 y86 y87 y88 y89 y90 y91 y92 y93 y94 y95 y96 y97 y98 y99 y100 y101 y102 y103 y104 y105 y106 y107 y108 y109 y110 y111 y112 y113 y114 y115 y116 y117 y118 y119 y120 y121 y122 y123 y124 y125 y126 y127 y128 y129 y130 y131 y132 y133 y134 y135 y136 y137 y138 y139 y140 y141 y142 y143 y144 y145 y146 y147 y148 y149 y150 y151 y152 y153 y154 y155 y156 y157 y158 y159 y160 y161 y162 y163 y164 y165 y166 y167 y168 y169 y170 y171 y172 y173 y174 y175 y176 y177 y178 y179 y180 y181 y182 : Value) (W : World), Hid (KX W2 w0 W (.slice a m c) GR) → Hid (FOK GR M) → Q .normal ⟨#[x0, .pointer (some ⟨B, 0, none⟩), x2, .slice a m c, x4, x5, .pointer (some ⟨Bs, 0, none⟩), .int .i64 wv, y8, x9, x10, x11, x12, x13, x14, x15, x16, x17, x18, x19, x20, x21, x22, x23, x24, x25, x26, x27, x28, x29, x30, x31, x32, x33, x34, x35, x36, x37, x38, x39, x40, x41, x42, y43, y44, y45, y46, y47, y48, y49, y50, y51, y52, y53, y54, y55, y56, y57, y58, y59, y60, y61, y62, y63, y64, y65, y66, y67, y68, y69, y70, y71, y72, y73, y74, y75, y76, y77, y78, y79, y80, y81, y82, y83, y84, y85, y86, y87, y88, y89, y90, y91, y92, y93, y94, y95, y96, y97, y98, y99, y100, y101, y102, y103, y104, y105, y106, y107, y108, y109, y110, y111, y112, y113, y114, y115, y116, y117, y118, y119, y120, y121, y122, y123, y124, y125, y126, y127, y128, y129, y130, y131, y132, y133, y134, y135, y136, y137, y138, y139, y140, y141, y142, y143, y144, y145, y146, y147, y148, y149, y150, y151, y152, y153, y154, y155, y156, y157, y158, y159, y160, y161, y162, y163, y164, y165, y166, y167, y168, y169, y170, y171, y172, y173, y174, y175, y176, y177, y178, y179, y180, y181, y182, x183], []⟩ W) :
 Code.wp Tryz.prog qiW Q ⟨#[x0, .pointer (some ⟨B, 0, none⟩), x2, .slice ga gm gc, x4, x5, .pointer (some ⟨Bs, 0, none⟩), .int .i64 wv, x8, x9, x10, x11, x12, x13, x14, x15, x16, x17, x18, x19, x20, x21, x22, x23, x24, x25, x26, x27, x28, x29, x30, x31, x32, x33, x34, x35, x36, x37, x38, x39, x40, x41, x42, x43, x44, x45, x46, x47, x48, x49, x50, x51, x52, x53, x54, x55, x56, x57, x58, x59, x60, x61, x62, x63, x64, x65, x66, x67, x68, x69, x70, x71, x72, x73, x74, x75, x76, x77, x78, x79, x80, x81, x82, x83, x84, x85, x86, x87, x88, x89, x90, x91, x92, x93, x94, x95, x96, x97, x98, x99, x100, x101, x102, x103, x104, x105, x106, x107, x108, x109, x110, x111, x112, x113, x114, x115, x116, x117, x118, x119, x120, x121, x122, x123, x124, x125, x126, x127, x128, x129, x130, x131, x132, x133, x134, x135, x136, x137, x138, x139, x140, x141, x142, x143, x144, x145, x146, x147, x148, x149, x150, x151, x152, x153, x154, x155, x156, x157, x158, x159, x160, x161, x162, x163, x164, x165, x166, x167, x168, x169, x170, x171, x172, x173, x174, x175, x176, x177, x178, x179, x180, x181, x182, x183], []⟩ w5 := by
 have HQ := qH0 hQ
 clear hQ
 let BQ : Exit → Act → World → Prop := bodyPost Tryz.prog Tryz.f9 (fun _ _ => True)
 conv => arg 2; whnf
 conv => arg 4; zeta
 go_upto_region 14 with (fail)
 go_cut [8] (fun v wx => v = .bool adr ∧ Hid (KX W2 w0 wx (.slice ga gm gc) F0))
 case first =>
  have x0 := HY.out w5 HK.out.1
  have hww := HBW.out w5 HK.out.1
  have y0 := kcell x0 0 _ rfl; have y1 := kcell x0 1 _ rfl
  have xs := HSX.out w5 HK.out.1
  have u0 := kcell xs 0 _ rfl; have u1 := kcell xs 1 _ rfl; have u2 := kcell xs 2 _ rfl; have u3 := kcell xs 3 _ rfl
  have HWW := qH0 hww
  clear x0 hww xs
  by_cases h1 : ty = 1
  ·subst h1
   have HE : Hid (adr = true) := qH0 (by rw [← HAD.out]; simp [*])
   go_wp2_with fail
   go_meet
   exact ⟨by rw [HE.out], HK⟩
  ·have h1b : (ty == 1) = false := by simpa using h1
   by_cases h28 : ty = 28
   ·subst h28
    have HE : Hid (adr = true) := qH0 (by rw [← HAD.out]; simp [*])
    go_wp2_with fail
    go_meet
    exact ⟨by rw [HE.out], HK⟩
   ·have h28b : (ty == 28) = false := by simpa using h28
    have HE : Hid (adr = false) := qH0 (by rw [← HAD.out]; simp [*])
    go_wp2_with fail
    go_meet
    exact ⟨by rw [HE.out], HK⟩
 case rest =>
 rename World => w6
 obtain ⟨rfl, HK2⟩ := hcut
 clear HK
 have HK := HK2
 clear HK2
 go_upto_region 15 with (fail)
 go_cut [79] (fun v wx => v = .bool k4 ∧ Hid (KX W2 w0 wx (.slice ga gm gc) F0))
 case first =>
  have x0 := HY.out w6 HK.out.1
  have hww := HBW.out w6 HK.out.1
  have y0 := kcell x0 0 _ rfl; have y1 := kcell x0 1 _ rfl
  have xs := HSX.out w6 HK.out.1
  have u0 := kcell xs 0 _ rfl; have u1 := kcell xs 1 _ rfl; have u2 := kcell xs 2 _ rfl; have u3 := kcell xs 3 _ rfl
  have HWW := qH0 hww
  clear x0 hww xs
  by_cases h0 : wv = 0
  ·subst h0
   have HE : Hid (k4 = true) := qH0 (by rw [← H4.out]; simp [*])
   go_wp2_with fail
   go_meet
   exact ⟨by rw [HE.out], HK⟩
  ·have h0b : (wv == 0) = false := by simpa using h0
   by_cases h6 : ty = 6
   ·subst h6
    cases sm
    ·have HE : Hid (k4 = true) := qH0 (by rw [← H4.out]; simp [*])
     have hc := CNs.out w6 HWW.out
     go_wp2_with fail
     refine hc.mono ?_
     rintro e w9 ⟨rfl, hb9⟩
     have HK9 := qH0 (HK.out.to hb9)
     clear hc hb9 y0 y1 u0 u1 u2 u3
     go_wp2_with fail
     go_meet
     exact ⟨by rw [HE.out], HK9⟩
    ·have HE : Hid (k4 = false) := qH0 (by rw [← H4.out]; simp [*])
     have hc := CNs.out w6 HWW.out
     go_wp2_with fail
     refine hc.mono ?_
     rintro e w9 ⟨rfl, hb9⟩
     have HK9 := qH0 (HK.out.to hb9)
     clear hc hb9 y0 y1 u0 u1 u2 u3
     go_wp2_with fail
     go_meet
     exact ⟨by rw [HE.out], HK9⟩
   ·have h6b : (ty == 6) = false := by simpa using h6
    have HE : Hid (k4 = false) := qH0 (by rw [← H4.out]; simp [*])
    go_wp2_with fail
    go_meet
    exact ⟨by rw [HE.out], HK⟩
 case rest =>
 rename World => wc0
 obtain ⟨rfl, HK2⟩ := hcut
 clear HK
 have HK := HK2
 clear HK2
 go_upto_if 79 with (fail)
 go_cut [3] (fun v wx => ∃ (a : Option Addr) (m c : Nat), v = .slice a m c ∧ Hid (KX W2 w0 wx (.slice a m c) (addB k4 F0 ⟨4, ow, ty⟩)))
 case first =>
  have x0 := HY.out wc0 HK.out.1
  have hww := HBW.out wc0 HK.out.1
  have y0 := kcell x0 0 _ rfl; have y1 := kcell x0 1 _ rfl
  have xs := HSX.out wc0 HK.out.1
  have u0 := kcell xs 0 _ rfl; have u1 := kcell xs 1 _ rfl; have u2 := kcell xs 2 _ rfl; have u3 := kcell xs 3 _ rfl
  have HWW := qH0 hww
  clear x0 hww xs
  cases k4
  ·go_wp2_with fail
   go_meet
   exact ⟨_, _, _, rfl, HK⟩
  ·have hc := CA.out (.slice ga gm gc) F0 p0 q0 r0 ⟨4, ow, ty⟩ (N0) HOW.out HOK.out HFB.out (by have := HN0.out; omega) wc0 HWW.out HK.out.2
   unfold qaK at hc
   go_wp2_with fail
   refine hc.mono ?_
   rintro e w9 ⟨v9, rfl, hr9, hb9⟩
   have hk9 : KX W2 w0 w9 v9 (addB true F0 ⟨4, ow, ty⟩) := ⟨HK.out.1.trans (hb9.mono HK.out.1.size), hr9⟩
   obtain ⟨a9, c9, rfl⟩ := hr9.shape
   generalize (addF F0 ⟨4, ow, ty⟩).length = m9 at *
   have HK9 := qH0 hk9
   clear hc hb9 hr9 hk9 y0 y1 u0 u1 u2 u3
   go_wp2_with fail
   go_meet
   exact ⟨_, _, _, rfl, HK9⟩
 case rest =>
 rename World => wd0
 obtain ⟨ga0, gm0, gc0, rfl, HK2⟩ := hcut
 clear HK
 have HK := HK2
 clear HK2
 have HFB2 := qH0 (qbs k4 HFB.out (f := ⟨4, ow, ty⟩) HOK.out)
 clear HFB
 have HFB := HFB2
 clear HFB2
 obtain ⟨G1, hF⟩ : ∃ G, addB k4 F0 ⟨4, ow, ty⟩ = G := ⟨_, rfl⟩
 rw [hF] at HFK HFB HK
 clear hF
 rename Act → World → Prop => K0
 rename ∀ (a_1 : Act) (w_1 : World), _ → K0 a_1 w_1 => hK
 exact hK _ _ (chk_t2 (o := o) HY HBW HSX CCs CTs CNs CLs CA HTYS H4 H5 H6 HAD H7 H8 H9 HFK HOW HOK (M := M) (N0 := N0 + 1) (qH0 (by have := HN0.out; omega)) (qH0 (by have := HM.out; omega)) HK HFB _ _ _ _ _ _ _ _ _ _ _ _ _ _ _ _ _ _ _ _ _ _ _ _ _ _ _ _ _ _ _ _ _ _ _ _ _ _ _ _ _ _ _ _ _ _ _ _ _ _ _ _ _ _ _ _ _ _ _ _ _ _ _ _ _ _ _ _ _ _ _ _ _ _ _ _ _ _ _ _ _ _ _ _ _ _ _ _ _ _ _ _ _ _ _ _ _ _ _ _ _ _ _ _ _ _ _ _ _ _ _ _ _ _ _ _ _ _ _ _ _ _ _ _ _ _ _ _ _ _ _ _ _ _ _ _ _ _ _ _ _ _ _ _ _ _ _ _ _ _ _ _ _ _ _ _ _ _ _ _ _ _ _ _ _ _ _ _ _ _ _ _ _ _ _ _ _ _ _ _ HQ.out)
noncomputable def qjU : Code := (Tryz.f9.body.bind (qbt 9)).getD .skip
theorem qjN {w0 w W1 w4 : World} {za v1 : Option Addr} {zn zc m c : Nat} {o : Nm} {rs : List Rc} {S : List St} {res : List Fl} {B n sc om2 oc2 : Nat} {sa oa2 : Option Addr} {css4 : List (List Value)}
 (HY : Hid (∀ W, Below W1.heap.size W1 W → W.heap[B]? = some (.cells #[.slice za zn zc, .slice v1 m c] 37)))
 (HBW : Hid (∀ W, Below W1.heap.size W1 W → Below w.heap.size w W)) (HW4 : Hid (Below W1.heap.size W1 w4))
 (HRS : Hid (SlK w4 (.slice sa n sc) css4)) (HRP : Hid (∀ j (h1 : j < css4.length) (h2 : j < S.length), RSetP w0 w4 css4[j] S[j])) (HN : Hid (css4.length = n)) (HNS : Hid (S.length = n)) (hn5 : n ≤ 100000)
 (CW : Hid (∀ (v : Value) (nm : Nm), NmAt w0 v nm → NmOK nm → ∀ W, Below w.heap.size w W → Calls Tryz.prog 29 #[.agg #[.slice za zn zc, .slice v1 m c], v] W fun e w' => e = .returned (.int .i64 (whereM o rs nm)) ∧ Below W.heap.size W w'))
 (CC : Hid (∀ (v : Value) (nm : Nm), NmAt w0 v nm → NmOK nm → ∀ W, Below w.heap.size w W → Calls Tryz.prog 31 #[.agg #[.slice za zn zc, .slice v1 m c], v] W fun e w' => e = .returned (.bool (coverR o rs nm)) ∧ Below W.heap.size W w'))
 (CT : Hid (∀ (v : Value) (nm : Nm), NmAt w0 v nm → NmOK nm → ∀ W, Below w.heap.size w W → Calls Tryz.prog 30 #[.slice v1 m c, v] W (TyPost W (typesM nm rs))))
 (CN : Hid (∀ (v : Value) (nm : Nm), NmAt w0 v nm → NmOK nm → ∀ W, Below w.heap.size w W → Calls Tryz.prog 17 #[v, .slice za zn zc] W fun e w' => e = .returned (.bool (sameN nm o)) ∧ Below W.heap.size W w'))
 (CL : Hid (∀ (v : Value) (nm : Nm), NmAt w0 v nm → NmOK nm → ∀ W, Below w.heap.size w W → Calls Tryz.prog 32 #[v] W fun e w' => e = .returned (.bool (wildN nm)) ∧ Below W.heap.size W w'))
 (CA : Hid (∀ (v : Value) (l : List Fl) (x0 : Option Addr) (x1 x2 : Nat) (f : Fl) (N : Nat), NmAt w0 (.slice x0 x1 x2) f.owner → NmOK f.owner → FOK l N → N ≤ 1000000 → ∀ W, Below w.heap.size w W → FlRow w0 W v l → Calls Tryz.prog 26 #[v, .agg #[.int .i64 f.kind, .slice x0 x1 x2, .int .i64 f.ty]] W (qaK w0 W (addF l f))))
 (HSO : Hid (∀ s ∈ S, NmOK s.owner)) (HTY : Hid (∀ s ∈ S, decide (1 < (typesM s.owner rs).length) = otherM S s)) (HCVS : Hid (∀ nm, coverR o rs nm = coverM (qaB o rs S) nm))
 (HKM : Hid (∀ s, kindsM o rs S s = kindsW o (whereM o rs s.owner) (otherM S s) (coverM (qaB o rs S) s.owner) s))
 (HFS : Hid (∀ k (hk : k < S.length), foldS o rs (k + 1) = ((kindsM o rs S S[k]).map fun j => (⟨j, S[k].owner, S[k].ty⟩ : Fl)).foldl addF (foldS o rs k))) (HFA : Hid (foldS o rs S.length = res))
 (HF3B : Hid (FOK (foldS o rs 0) (3 + 6 * 0))) (HK4' : Hid (KX W1 w0 w4 (.slice oa2 om2 oc2) (foldS o rs 0))) (x5 x6 x7 x8 x9 x10 x11 x12 x13 x14 x15 x16 x17 x18 x19 x20 x21 x22 x23 x24 x25 x26 x27 x28 x29 x30 x31 x32 x33 x34 x35 x36 x37 x38 x39 x40 x41 x42 x43 x44 x45 x46 x47 x48 x49 x50 x51 x52 x53 x54 x55 x56 x57 x58 x59 x60 x61 x62 x63 x64 x65 x66 x67 x68 x69 x70 x71 x72 x73 x74 x75 x76 x77 x78 x79 x80 x81 x82 x83 x84 x85 x86 x87 x88 x89 x90 x91 x92 x93 x94 x95 x96 x97 x98 x99 x100 x101 x102 x103 x104 x105 x106 x107 x108 x109 x110 x111 x112 x113 x114 x115 x116 x117 x118 x119 x120 x121 x122 x123 x124 x125 x126 x127 x128 x129 x130 x131 x132 x133 x134 x135 x136 x137 x138 x139 x140 x141 x142 x143 x144 x145 x146 x147 x148 x149 x150 x151 x152 x153 x154 x155 x156 x157 x158 x159 x160 x161 x162 x163 x164 x165 x166 x167 x168 x169 x170 x171 x172 x173 x174 x175 x176 x177 x178 x179 x180 x181 x182 x183 : Value) :
 Code.wp Tryz.prog qjU (bodyPost Tryz.prog Tryz.f9 (qaK w0 w res)) ⟨#[.agg #[.slice za zn zc, .slice v1 m c], .pointer (some ⟨B, 0, none⟩), .slice none 0 0, .slice oa2 om2 oc2, .slice sa n sc, x5, x6, x7, x8, x9, x10, x11, x12, x13, x14, x15, x16, x17, x18, x19, x20, x21, x22, x23, x24, x25, x26, x27, x28, x29, x30, x31, x32, x33, x34, x35, x36, x37, x38, x39, x40, x41, x42, x43, x44, x45, x46, x47, x48, x49, x50, x51, x52, x53, x54, x55, x56, x57, x58, x59, x60, x61, x62, x63, x64, x65, x66, x67, x68, x69, x70, x71, x72, x73, x74, x75, x76, x77, x78, x79, x80, x81, x82, x83, x84, x85, x86, x87, x88, x89, x90, x91, x92, x93, x94, x95, x96, x97, x98, x99, x100, x101, x102, x103, x104, x105, x106, x107, x108, x109, x110, x111, x112, x113, x114, x115, x116, x117, x118, x119, x120, x121, x122, x123, x124, x125, x126, x127, x128, x129, x130, x131, x132, x133, x134, x135, x136, x137, x138, x139, x140, x141, x142, x143, x144, x145, x146, x147, x148, x149, x150, x151, x152, x153, x154, x155, x156, x157, x158, x159, x160, x161, x162, x163, x164, x165, x166, x167, x168, x169, x170, x171, x172, x173, x174, x175, x176, x177, x178, x179, x180, x181, x182, x183], []⟩ w4 := by
 have HL4 := qH0 (show ∀ cs ∈ css4, cs.length = 4 from fun cs hc => by
  obtain ⟨i, hi, rfl⟩ := List.mem_iff_getElem.1 hc
  obtain ⟨x0, x3, ds, e, _⟩ := HRP.out i hi (by have := HN.out; have := HNS.out; omega)
  rw [e]; rfl)
 conv => arg 2; whnf
 conv => arg 4; zeta
 go_wp2
 go_loopw [3, 5, 6, 7, 8] (fun vo vi _ _ _ wr => ∃ (k : Nat) (ga : Option Addr) (gm gc : Nat), vo = .slice ga gm gc ∧ vi = .int .i64 k ∧ k ≤ n ∧ Hid (KX w4 w0 wr (.slice ga gm gc) (foldS o rs k)) ∧ Hid (FOK (foldS o rs k) (3 + 6 * k))) (fun _ vi _ _ _ _ => n - (intOf vi).toNat)
 case atStart => exact ⟨0, oa2, om2, oc2, rfl, rfl, Nat.zero_le _, qH0 ⟨qL0, HK4'.out.2⟩, HF3B⟩
 case round =>
  obtain ⟨k, ga, gm, gc, rfl, rfl, hk, HKk, HFBk⟩ := hrel
  clear HK4' HF3B
  by_cases hlt : k < n
  ·have hltz : (k : Int) < (n : Int) := by omega
   have hk1 : k < css4.length := by have := HN.out; omega
   have hk2 : k < S.length := by have := HNS.out; omega
   obtain ⟨b, off, rfl, hb, hel⟩ := HRS.out.elem4 HL4.out (by omega)
   obtain ⟨⟨p0, q0, r0⟩, ⟨p3, q3, r3⟩, ds, e0, hn1, hs3, hd3⟩ := HRP.out k hk1 hk2
   have hq3 : q3 = S[k].data.length := by
    obtain ⟨_, _, e, -⟩ := id hs3
    unfold slW at e
    injection e with _ e _
    simp only at e
    rw [e, hd3.1]
   unfold slW at e0 hn1
   simp only at e0 hn1
   obtain ⟨c0, c1, c2, c3⟩ := hel k hk1 _ _ _ _ e0 wr HKk.out.1
   have hmem : S[k]'hk2 ∈ S := List.getElem_mem hk2
   have hso := HSO.out _ hmem
   have hty := HTY.out _ hmem
   have hfs := HFS.out k hk2
   have hkm := HKM.out (S[k]'hk2)
   rw [hkm, qh6] at hfs
   obtain ⟨s, hs⟩ : ∃ s, S[k]'hk2 = s := ⟨_, rfl⟩
   rw [hs] at c1 c2 hn1 hso hty hfs hq3
   obtain ⟨wv, hwv⟩ : ∃ v, whereM o rs s.owner = v := ⟨_, rfl⟩
   obtain ⟨oth, hoth⟩ : ∃ v, otherM S s = v := ⟨_, rfl⟩
   obtain ⟨cov, hcov⟩ : ∃ v, coverM (qaB o rs S) s.owner = v := ⟨_, rfl⟩
   obtain ⟨sm, hsm⟩ : ∃ v, sameN s.owner o = v := ⟨_, rfl⟩
   obtain ⟨wl, hwl⟩ : ∃ v, wildN s.owner = v := ⟨_, rfl⟩
   obtain ⟨adr, had⟩ : ∃ v, (decide (s.ty = 1) || decide (s.ty = 28)) = v := ⟨_, rfl⟩
   rw [hwv, hoth, hcov] at hfs
   rw [hoth] at hty
   have CWs := qH0 (fun W hb => CW.out (.slice p0 q0 r0) s.owner hn1 hso W hb)
   have CCs := qH0 (fun W hb => CC.out (.slice p0 q0 r0) s.owner hn1 hso W hb)
   have CTs := qH0 (fun W hb => CT.out (.slice p0 q0 r0) s.owner hn1 hso W hb)
   have CNs := qH0 (fun W hb => CN.out (.slice p0 q0 r0) s.owner hn1 hso W hb)
   have CLs := qH0 (fun W hb => CL.out (.slice p0 q0 r0) s.owner hn1 hso W hb)
   rw [hwv] at CWs
   rw [HCVS.out, hcov] at CCs
   rw [hsm] at CNs
   rw [hwl] at CLs
   have HTYS := qH0 hty
   obtain ⟨k4, hk4⟩ : ∃ v, kind4 o wv s = v := ⟨_, rfl⟩
   obtain ⟨k5, hk5⟩ : ∃ v, kind5 oth s = v := ⟨_, rfl⟩
   obtain ⟨k6, hk6⟩ : ∃ v, kind6 s = v := ⟨_, rfl⟩
   obtain ⟨k7, hk7⟩ : ∃ v, kind7 wv s = v := ⟨_, rfl⟩
   obtain ⟨k8, hk8⟩ : ∃ v, kind8 wv cov = v := ⟨_, rfl⟩
   obtain ⟨k9, hk9⟩ : ∃ v, kind9 s = v := ⟨_, rfl⟩
   rw [hk4, hk5, hk6, hk7, hk8, hk9] at hfs
   have H4 := qH0 (show (decide (wv = 0) || (decide (s.ty = 6) && !sm)) = k4 by rw [← hk4, ← hsm]; rfl)
   have H5 := qH0 (show (decide (s.ty = 5) && oth) = k5 from hk5)
   have H6 := qH0 (show ((decide (s.ty = 5) || decide (s.ty = 39)) && decide (1 < q3)) = k6 by rw [← hk6, hq3]; rfl)
   have HAD := qH0 had
   have H7 := qH0 (show (!adr && ((decide (wv = 2) && !decide (s.ty = 2)) || decide (wv = 3))) = k7 by rw [← hk7, ← had]; rfl)
   have H8 := qH0 (show (decide (wv = 1) && cov) = k8 from hk8)
   have H9 := qH0 (show (decide (s.ty = 2) && wl) = k9 by rw [← hk9, ← hwl]; rfl)
   have HFK := qH0 hfs
   have HOW := qH0 hn1; have HOK := qH0 hso
   clear hfs hkm hwv hoth hcov hsm hwl had hk4 hk5 hk6 hk7 hk8 hk9 hn1 hso hty hs hmem hq3 hs3 hd3 e0 hel hb hk1 hk2 ds
   generalize s.ty = ty at *
   generalize (s.ttl : Int) = tt at *
   generalize s.owner = ow at *
   generalize foldS o rs k = F0 at *
   have hA := (Below.refl wr.heap.size wr).alloc (qN0) (.cells #[.slice p0 q0 r0, .int .i64 ty, .int .u32 tt, .slice p3 q3 r3] 80)
   obtain ⟨Bs, hbs⟩ : ∃ b, wr.heap.size = b := ⟨_, rfl⟩
   obtain ⟨W2, hW2⟩ : ∃ W, wr.alloc (.cells #[.slice p0 q0 r0, .int .i64 ty, .int .u32 tt, .slice p3 q3 r3] 80) = W := ⟨_, rfl⟩
   have hX := knew wr (.cells #[.slice p0 q0 r0, .int .i64 ty, .int .u32 tt, .slice p3 q3 r3] 80)
   rw [hW2] at hA hX
   rw [hbs] at hX
   have HSX := qH0 (fun (W : World) (hb : Below W2.heap.size W2 W) => (hb.block _ (qaa hX)).trans hX)
   have HW2 := qH0 (HKk.out.1.trans (hA.mono HKk.out.1.size))
   have HX := qH0 (qB0 HW4.out HW2.out)
   have HK : Hid (KX W2 w0 W2 (.slice ga gm gc) F0) := qH0 ⟨qL0, HKk.out.2.below hA⟩
   have HFB := HFBk
   have x0 := HY.out W2 HX.out
   have hww := HBW.out W2 HX.out
   have y0 := kcell x0 0 _ rfl; have y1 := kcell x0 1 _ rfl
   have xs := HSX.out W2 (qL0)
   have u0 := kcell xs 0 _ rfl
   have hc := CWs.out W2 hww
   clear hA hX HKk HFBk x0 hww xs
   have HY2 := qH0 (fun (W : World) (hb : Below W2.heap.size W2 W) => HY.out W (qB0 HX.out hb))
   have HBW2 := qH0 (fun (W : World) (hb : Below W2.heap.size W2 W) => HBW.out W (qB0 HX.out hb))
   have HN0 : Hid (3 + 6 * k ≤ 700000) := qH0 (by omega)
   have HM : Hid (3 + 6 * k + 6 = 3 + 6 * (k + 1)) := qH0 (by omega)
   go_upto_region 13 with (fail)
   clear hW2 hbs
   go_cut [7] (fun v wx => v = .int .i64 wv ∧ Hid (KX W2 w0 wx (.slice ga gm gc) F0))
   case first =>
    go_wp2_with fail
    refine hc.mono ?_
    rintro e w5 ⟨rfl, hb5⟩
    have HK5 := qH0 (HK.out.to hb5)
    clear hc hb5 y0 y1 u0
    go_wp2_with fail
    go_meet
    exact ⟨rfl, HK5⟩
   case rest =>
   rename World => w5
   obtain ⟨rfl, HK5⟩ := hcut
   rename Act → World → Prop => K0
   rename ∀ (a_1 : Act) (w_1 : World), _ → K0 a_1 w_1 => hK
   refine hK _ _ (qjW (o := o) HY2 HBW2 HSX CCs CTs CNs CLs CA HTYS H4 H5 H6 HAD H7 H8 H9 HFK HOW HOK HN0 HM HK5 HFB _ _ _ _ _ _ _ _ _ _ _ _ _ _ _ _ _ _ _ _ _ _ _ _ _ _ _ _ _ _ _ _ _ _ _ _ _ _ _ _ _ _ _ _ _ _ _ _ _ _ _ _ _ _ _ _ _ _ _ _ _ _ _ _ _ _ _ _ _ _ _ _ _ _ _ _ _ _ _ _ _ _ _ _ _ _ _ _ _ _ _ _ _ _ _ _ _ _ _ _ _ _ _ _ _ _ _ _ _ _ _ _ _ _ _ _ _ _ _ _ _ _ _ _ _ _ _ _ _ _ _ _ _ _ _ _ _ _ _ _ _ _ _ _ _ _ _ _ _ _ _ _ _ _ _ _ _ _ _ _ _ _ _ _ _ _ _ _ _ _ _ _ _ _ _ _ _ _ _ _ _ ?_)
   intro a m' c' y8 y43 y44 y45 y46 y47 y48 y49 y50 y51 y52 y53 y54 y55 y56 y57 y58 y59 y60 y61 y62 y63 y64 y65 y66 y67 y68 y69 y70 y71 y72 y73 y74 y75 y76 y77 y78 y79 y80 y81 y82 y83 y84 y85 y86 y87 y88 y89 y90 y91 y92 y93 y94 y95 y96 y97 y98 y99 y100 y101 y102 y103 y104 y105 y106 y107 y108 y109 y110 y111 y112 y113 y114 y115 y116 y117 y118 y119 y120 y121 y122 y123 y124 y125 y126 y127 y128 y129 y130 y131 y132 y133 y134 y135 y136 y137 y138 y139 y140 y141 y142 y143 y144 y145 y146 y147 y148 y149 y150 y151 y152 y153 y154 y155 y156 y157 y158 y159 y160 y161 y162 y163 y164 y165 y166 y167 y168 y169 y170 y171 y172 y173 y174 y175 y176 y177 y178 y179 y180 y181 y182 wz HKE HFE
   have HKE2 := qH0 (show KX w4 w0 wz (.slice a m' c') (foldS o rs (k + 1)) from ⟨HW2.out.trans (HKE.out.1.mono HW2.out.size), HKE.out.2⟩)
   clear HKE HK HK5 HFB
   simp only [Exit.inBlock, Exit.then]
   conv => arg 1; zeta
   clear HY2 HBW2 HSX CCs CTs CNs CLs HTYS H4 H5 H6 HAD H7 H8 H9 HFK HOW HOK HN0 HM
   clear hK K0
   rename Act → World → Prop => K1
   rename ∀ (a_1 : Act) (w_1 : World), _ → K1 a_1 w_1 => hK1
   refine hK1 _ _ ?_
   clear hK1
   go_wp2
   go_roundw
   case measure => simp [intOf]; omega
   case rel => exact ⟨k + 1, a, m', c', rfl, by go_num, by omega, HKE2, HFE⟩
  ·obtain rfl : k = n := by omega
   have hr := HKk.out.2
   rw [← HNS.out, HFA.out] at hr
   have HRR := qH0 hr
   have HBE := qH0 (HBW.out wr (HW4.out.trans (HKk.out.1.mono HW4.out.size)))
   clear hr
   go_wp2
   go_ret
   exact ⟨_, rfl, HRR.out, HBE.out⟩
theorem qiQ {w0 w : World} {za v1 : Option Addr} {zn zc m c : Nat} {o : Nm} {rs : List Rc} (h : ZonS w0 za zn zc v1 m c o rs) (hb0 : Below w0.heap.size w0 w) (hst : StrictR rs) (hm : m ≤ 100000) :
 Calls Tryz.prog 9 #[.agg #[.slice za zn zc, .slice v1 m c]] w (qaK w0 w (checkM o rs)) := by
 have hcan := qcc rs hst
 obtain ⟨hzo, hko, ⟨cs0, hzs, hzr⟩, hokr, -⟩ := id h
 have hml : rs.length = m := by
  obtain ⟨_, _, e, -⟩ := id hzs
  injection e with _ e _
  rw [e, hzr.1]
 have CH := qH0 (fun (t : Int) (W : World) (hb : Below w.heap.size w W) => qdT t (h.below (qB0 hb0 hb)) (hzo.below (qB0 hb0 hb)) hko)
 have CD := qH0 (fun (W : World) (hb : Below w.heap.size w W) => qiI 6 h (qB0 hb0 hb) (hzo.below (qB0 hb0 hb)) hko (by omega))
 have CS := qH0 (fun (W : World) (hb : Below w.heap.size w W) => qeo w0 W (.slice v1 m c) cs0 rs (hzs.below (qB0 hb0 hb)) hzr (qB0 hb0 hb) hokr (by rw [hzr.1]; omega))
 have CW := qH0 (fun (v : Value) (n : Nm) (hv : NmAt w0 v n) (hk : NmOK n) (W : World) (hb : Below w.heap.size w W) => qdL (h.below (qB0 hb0 hb)) (hv.below (qB0 hb0 hb)) hk)
 have CC := qH0 (fun (v : Value) (n : Nm) (hv : NmAt w0 v n) (hk : NmOK n) (W : World) (hb : Below w.heap.size w W) => qgk (h.below (qB0 hb0 hb)) (hv.below (qB0 hb0 hb)) hk)
 have CT := qH0 (fun (v : Value) (n : Nm) (hv : NmAt w0 v n) (hk : NmOK n) (W : World) (hb : Below w.heap.size w W) => qhJ (.slice v1 m c) v n cs0 rs W (hzs.below (qB0 hb0 hb)) (hzr.below (qB0 hb0 hb)) (hv.below (qB0 hb0 hb)) hk hokr (by rw [hzr.1]; omega))
 have CN := qH0 (fun (v : Value) (n : Nm) (hv : NmAt w0 v n) (hk : NmOK n) (W : World) (hb : Below w.heap.size w W) => qbS v (.slice za zn zc) n o _ rfl W (hv.below (qB0 hb0 hb)) (hzo.below (qB0 hb0 hb)) hk hko)
 have CL := qH0 (fun (v : Value) (n : Nm) (hv : NmAt w0 v n) (hk : NmOK n) (W : World) (hb : Below w.heap.size w W) => qkQ v n _ rfl W (hv.below (qB0 hb0 hb)) hk)
 have CA := qH0 (fun (v : Value) (l : List Fl) (x0 : Option Addr) (x1 x2 : Nat) (f : Fl) (N : Nat) (hF : NmAt w0 (.slice x0 x1 x2) f.owner) (hk : NmOK f.owner) (hN : FOK l N) (hN2 : N ≤ 1000000) (W : World) (hb : Below w.heap.size w W) (hL : FlRow w0 W v l) => qha v l x0 x1 x2 f hL (qB0 hb0 hb) hF hk hN.1 (by have := hN.2; omega))
 have HZO := qH0 hzo; have HKO := qH0 hko; have HB00 := qH0 hb0; have HOKR := qH0 hokr; have HML := qH0 hml
 have HSO := qH0 (fun s (hs : s ∈ setsM rs) => (show NmOK s.owner from (qcg hokr (by rw [hcan]; exact hs)).1))
 have HTY := qH0 (fun s (hs : s ∈ setsM rs) => qhx hcan hst hs)
 have HCV := qH0 (fun n => qle hst o n)
 have HSL := qH0 (show (setsM rs).length ≤ 100000 by have := qb5 _ rs (qN0); omega)
 have hat := at0_R o rs
 have HF0 := qH0 (show foldS o rs 0 = (at0M o rs).foldl addF [] by unfold foldS; simp)
 have HFA := qH0 (qjE o rs)
 have HFS := qH0 (fun k hk => qic o rs (k := k) hk)
 rw [hcan] at CS
 generalize checkM o rs = res at *
 have X0 := knew w (.cells #[.slice za zn zc, .slice v1 m c] 37)
 have hB0 := (Below.refl w.heap.size w).alloc (qN0) (.cells #[.slice za zn zc, .slice v1 m c] 37)
 obtain ⟨W1, hW1⟩ : ∃ W, w.alloc (.cells #[.slice za zn zc, .slice v1 m c] 37) = W := ⟨_, rfl⟩
 rw [hW1] at X0 hB0
 have HB0 := qH0 hB0
 have HY := qH0 (fun (W : World) (hb : Below W1.heap.size W1 W) => (show W.heap[w.heap.size]? = some (.cells #[.slice za zn zc, .slice v1 m c] 37) from (hb.block _ (qaa X0)).trans X0))
 have HBW := qH0 (fun (W : World) (hb : Below W1.heap.size W1 W) => qB0 hB0 hb)
 have HXZ := qH0 (show w.heap.size < W1.heap.size from qaa X0)
 obtain ⟨B, hB⟩ : ∃ B, w.heap.size = B := ⟨_, rfl⟩
 have HBQ := qH0 hB
 rw [hB] at HY HXZ
 have HFB : Hid (FOK [] 0) := qH0 ⟨fun g hg => (by cases hg), qN0⟩
 have HK : Hid (KX W1 w0 W1 (.slice none 0 0) []) := qH0 ⟨qL0, FlRow.nil _ _⟩
 obtain ⟨b1, hb1⟩ : ∃ b, (!hasM rs o 6) = b := ⟨_, rfl⟩
 obtain ⟨b2, hb2⟩ : ∃ b, decide (1 < (dataM rs o 6).length) = b := ⟨_, rfl⟩
 obtain ⟨b3, hb3⟩ : ∃ b, (!hasM rs o 2) = b := ⟨_, rfl⟩
 rw [hb1, hb2, hb3] at hat
 have HB1 := qH0 hb1; have HB2 := qH0 hb2; have HB3 := qH0 hb3
 have HAT := qH0 hat
 clear h hb0 hst hm hcan hzo hko hzs hzr hokr hml hat X0 hB0 hb1 hb2 hb3 cs0
 go_enter Tryz.func9, Tryz.ntmps9
 go_upto_region 2 with (fail)
 clear hW1 hB
 go_cut [13] (fun v wx => v = .bool b1 ∧ Hid (KX W1 w0 wx (.slice none 0 0) []))
 case first =>
  have x0 := HY.out W1 HK.out.1
  have hww := HBW.out W1 HK.out.1
  have y0 := kcell x0 0 _ rfl; have y1 := kcell x0 1 _ rfl
  have HWW := qH0 hww
  clear x0 hww
  obtain ⟨hv, hhv⟩ : ∃ v, hasM rs o 6 = v := ⟨_, rfl⟩
  have HE : Hid (b1 = !hv) := qH0 (by rw [← HB1.out, hhv])
  have hc0 := CH.out 6 W1 HWW.out
  rw [hhv] at hc0
  clear hhv
  have hc := hc0
  go_wp2_with fail
  refine hc.mono ?_
  rintro e w9 ⟨rfl, hb9⟩
  have HK9 := qH0 (HK.out.to hb9)
  clear hc hb9 y0 y1
  clear hc0
  go_wp2_with fail
  go_meet
  exact ⟨by rw [HE.out], HK9⟩
 case rest =>
 rename World => wa0
 obtain ⟨rfl, HK2⟩ := hcut
 clear HK
 have HK := HK2
 clear HK2
 go_upto_if 13 with (fail)
 go_cut [3] (fun v wx => ∃ (a : Option Addr) (m c : Nat), v = .slice a m c ∧ Hid (KX W1 w0 wx (.slice a m c) (addB b1 [] ⟨1, o, 6⟩)))
 case first =>
  have x0 := HY.out wa0 HK.out.1
  have hww := HBW.out wa0 HK.out.1
  have y0 := kcell x0 0 _ rfl; have y1 := kcell x0 1 _ rfl
  have HWW := qH0 hww
  clear x0 hww
  cases b1
  ·go_wp2_with fail
   go_meet
   exact ⟨_, _, _, rfl, HK⟩
  ·have hc := CA.out (.slice none 0 0) [] za zn zc ⟨1, o, 6⟩ 0 HZO.out HKO.out HFB.out (by omega) wa0 HWW.out HK.out.2
   unfold qaK at hc
   go_wp2_with fail
   refine hc.mono ?_
   rintro e w9 ⟨v9, rfl, hr9, hb9⟩
   have hk9 : KX W1 w0 w9 v9 (addB true [] ⟨1, o, 6⟩) := ⟨HK.out.1.trans (hb9.mono HK.out.1.size), hr9⟩
   obtain ⟨a9, c9, rfl⟩ := hr9.shape
   generalize (addF [] ⟨1, o, 6⟩).length = m9 at *
   have HK9 := qH0 hk9
   clear hc hb9 hr9 hk9 y0 y1
   go_wp2_with fail
   go_meet
   exact ⟨_, _, _, rfl, HK9⟩
 case rest =>
 rename World => wb0
 obtain ⟨oa0, om0, oc0, rfl, HK2⟩ := hcut
 clear HK
 have HK := HK2
 clear HK2
 have HFB2 := qH0 (qbs b1 HFB.out (f := ⟨1, o, 6⟩) HKO.out)
 clear HFB
 have HFB := HFB2
 clear HFB2
 obtain ⟨F1, hF⟩ : ∃ G, addB b1 [] ⟨1, o, 6⟩ = G := ⟨_, rfl⟩
 rw [hF] at HAT HFB HK
 clear hF
 go_upto_region 4 with (fail)
 go_cut [24] (fun v wx => v = .bool b2 ∧ Hid (KX W1 w0 wx (.slice oa0 om0 oc0) F1))
 case first =>
  have x0 := HY.out wb0 HK.out.1
  have hww := HBW.out wb0 HK.out.1
  have y0 := kcell x0 0 _ rfl; have y1 := kcell x0 1 _ rfl
  have HWW := qH0 hww
  clear x0 hww
  have hc := CD.out wb0 HWW.out
  unfold qg6 at hc
  go_wp2_with fail
  refine hc.mono ?_
  rintro e w9 ⟨v9, rfl, hf9, hb9⟩
  have HK9 := qH0 (HK.out.to hb9)
  clear hc hb9 y0 y1
  obtain ⟨css9, hs9, hd9⟩ := hf9 w9 (FarKeep.refl _ _)
  obtain ⟨a9, c9, rfl, -⟩ := id hs9
  have hl9 : css9.length = (dataM rs o 6).length := hd9.1
  have HE0 := qH0 (show decide (1 < css9.length) = b2 by rw [hl9]; exact HB2.out)
  generalize css9.length = n9 at *
  clear hf9 hs9 hd9 hl9
  by_cases hq : 1 < n9
  ·have hqz : (1 : Int) < (n9 : Int) := by omega
   have HE : Hid (b2 = true) := qH0 (by rw [← HE0.out]; simp [hq])
   go_wp2_with fail
   go_meet
   exact ⟨by rw [HE.out], HK9⟩
  ·have hqz : ¬ (1 : Int) < (n9 : Int) := by omega
   have HE : Hid (b2 = false) := qH0 (by rw [← HE0.out]; simp [hq])
   go_wp2_with fail
   go_meet
   exact ⟨by rw [HE.out]; simp <;> omega, HK9⟩
 case rest =>
 rename World => wa1
 obtain ⟨rfl, HK2⟩ := hcut
 clear HK
 have HK := HK2
 clear HK2
 go_upto_if 24 with (fail)
 go_cut [3] (fun v wx => ∃ (a : Option Addr) (m c : Nat), v = .slice a m c ∧ Hid (KX W1 w0 wx (.slice a m c) (addB b2 F1 ⟨2, o, 6⟩)))
 case first =>
  have x0 := HY.out wa1 HK.out.1
  have hww := HBW.out wa1 HK.out.1
  have y0 := kcell x0 0 _ rfl; have y1 := kcell x0 1 _ rfl
  have HWW := qH0 hww
  clear x0 hww
  cases b2
  ·go_wp2_with fail
   go_meet
   exact ⟨_, _, _, rfl, HK⟩
  ·have hc := CA.out (.slice oa0 om0 oc0) F1 za zn zc ⟨2, o, 6⟩ 1 HZO.out HKO.out HFB.out (by omega) wa1 HWW.out HK.out.2
   unfold qaK at hc
   go_wp2_with fail
   refine hc.mono ?_
   rintro e w9 ⟨v9, rfl, hr9, hb9⟩
   have hk9 : KX W1 w0 w9 v9 (addB true F1 ⟨2, o, 6⟩) := ⟨HK.out.1.trans (hb9.mono HK.out.1.size), hr9⟩
   obtain ⟨a9, c9, rfl⟩ := hr9.shape
   generalize (addF F1 ⟨2, o, 6⟩).length = m9 at *
   have HK9 := qH0 hk9
   clear hc hb9 hr9 hk9 y0 y1
   go_wp2_with fail
   go_meet
   exact ⟨_, _, _, rfl, HK9⟩
 case rest =>
 rename World => wb1
 obtain ⟨oa1, om1, oc1, rfl, HK2⟩ := hcut
 clear HK
 have HK := HK2
 clear HK2
 have HFB2 := qH0 (qbs b2 HFB.out (f := ⟨2, o, 6⟩) HKO.out)
 clear HFB
 have HFB := HFB2
 clear HFB2
 obtain ⟨F2, hF⟩ : ∃ G, addB b2 F1 ⟨2, o, 6⟩ = G := ⟨_, rfl⟩
 rw [hF] at HAT HFB HK
 clear hF
 go_upto_region 6 with (fail)
 go_cut [34] (fun v wx => v = .bool b3 ∧ Hid (KX W1 w0 wx (.slice oa1 om1 oc1) F2))
 case first =>
  have x0 := HY.out wb1 HK.out.1
  have hww := HBW.out wb1 HK.out.1
  have y0 := kcell x0 0 _ rfl; have y1 := kcell x0 1 _ rfl
  have HWW := qH0 hww
  clear x0 hww
  obtain ⟨hv, hhv⟩ : ∃ v, hasM rs o 2 = v := ⟨_, rfl⟩
  have HE : Hid (b3 = !hv) := qH0 (by rw [← HB3.out, hhv])
  have hc0 := CH.out 2 wb1 HWW.out
  rw [hhv] at hc0
  clear hhv
  have hc := hc0
  go_wp2_with fail
  refine hc.mono ?_
  rintro e w9 ⟨rfl, hb9⟩
  have HK9 := qH0 (HK.out.to hb9)
  clear hc hb9 y0 y1
  clear hc0
  go_wp2_with fail
  go_meet
  exact ⟨by rw [HE.out], HK9⟩
 case rest =>
 rename World => wa2
 obtain ⟨rfl, HK2⟩ := hcut
 clear HK
 have HK := HK2
 clear HK2
 go_upto_if 34 with (fail)
 go_cut [3] (fun v wx => ∃ (a : Option Addr) (m c : Nat), v = .slice a m c ∧ Hid (KX W1 w0 wx (.slice a m c) (addB b3 F2 ⟨3, o, 2⟩)))
 case first =>
  have x0 := HY.out wa2 HK.out.1
  have hww := HBW.out wa2 HK.out.1
  have y0 := kcell x0 0 _ rfl; have y1 := kcell x0 1 _ rfl
  have HWW := qH0 hww
  clear x0 hww
  cases b3
  ·go_wp2_with fail
   go_meet
   exact ⟨_, _, _, rfl, HK⟩
  ·have hc := CA.out (.slice oa1 om1 oc1) F2 za zn zc ⟨3, o, 2⟩ 2 HZO.out HKO.out HFB.out (by omega) wa2 HWW.out HK.out.2
   unfold qaK at hc
   go_wp2_with fail
   refine hc.mono ?_
   rintro e w9 ⟨v9, rfl, hr9, hb9⟩
   have hk9 : KX W1 w0 w9 v9 (addB true F2 ⟨3, o, 2⟩) := ⟨HK.out.1.trans (hb9.mono HK.out.1.size), hr9⟩
   obtain ⟨a9, c9, rfl⟩ := hr9.shape
   generalize (addF F2 ⟨3, o, 2⟩).length = m9 at *
   have HK9 := qH0 hk9
   clear hc hb9 hr9 hk9 y0 y1
   go_wp2_with fail
   go_meet
   exact ⟨_, _, _, rfl, HK9⟩
 case rest =>
 rename World => wb2
 obtain ⟨oa2, om2, oc2, rfl, HK2⟩ := hcut
 clear HK
 have HK := HK2
 clear HK2
 have HFB2 := qH0 (qbs b3 HFB.out (f := ⟨3, o, 2⟩) HKO.out)
 clear HFB
 have HFB := HFB2
 clear HFB2
 obtain ⟨F3, hF⟩ : ∃ G, addB b3 F2 ⟨3, o, 2⟩ = G := ⟨_, rfl⟩
 rw [hF] at HAT HFB HK
 clear hF
 have HF3 := qH0 (show F3 = foldS o rs 0 by rw [HF0.out, HAT.out])
 have x0 := HY.out wb2 HK.out.1
 have hww := HBW.out wb2 HK.out.1
 have y0 := kcell x0 0 _ rfl; have y1 := kcell x0 1 _ rfl
 have hc := CS.out wb2 hww
 unfold qdx at hc
 clear x0 hww HAT HF0 b1 b2 b3 HB1 HB2 HB3
 obtain ⟨S, hS⟩ : ∃ S, setsM rs = S := ⟨_, rfl⟩
 rw [hS] at hc HSO HTY HSL HFA HFS
 have HCVS := qH0 (fun n => show coverR o rs n = coverM (qaB o rs S) n by rw [← hS]; exact HCV.out n)
 have HKM := qH0 (fun s => show kindsM o rs S s = kindsW o (whereM o rs s.owner) (otherM S s) (coverM (qaB o rs S) s.owner) s from rfl)
 clear hS HCV
 go_upto_region 8 with (fail)
 go_cut [4] (fun v wx => ∃ (sa : Option Addr) (n sc : Nat) (css4 : List (List Value)), v = .slice sa n sc ∧ Hid (KX W1 w0 wx (.slice oa2 om2 oc2) F3) ∧ Hid (SlK wx (.slice sa n sc) css4) ∧ Hid (∀ j (h1 : j < css4.length) (h2 : j < S.length), RSetP w0 wx css4[j] S[j]) ∧ Hid (css4.length = n ∧ S.length = n))
 case first =>
  go_wp2_with fail
  refine hc.mono ?_
  rintro e w4 ⟨v4, css4, rfl, hcl, hrs, hb4⟩
  have HK4 := qH0 (HK.out.to hb4)
  have HRS := qH0 (hrs w4 (FarKeep.refl _ _)).1
  have HRP := qH0 (hrs w4 (FarKeep.refl _ _)).2
  obtain ⟨sa, sc, rfl, -⟩ := id HRS.out
  have HNN := qH0 (hcl.symm : S.length = css4.length)
  clear hc hb4 hrs hcl y0 y1
  go_wp2_with fail
  go_meet
  exact ⟨_, _, _, css4, rfl, HK4, HRS, HRP, qH0 ⟨rfl, HNN.out⟩⟩
 case rest =>
 rename World => w4
 obtain ⟨sa, n, sc, css4, rfl, HK4, HRS, HRP, HNN⟩ := hcut
 have HN := qH0 HNN.out.1
 have HNS := qH0 HNN.out.2
 have hn5 : n ≤ 100000 := by have := HSL.out; have := HNS.out; omega
 have HF3B : Hid (FOK (foldS o rs 0) (3 + 6 * 0)) := qH0 (by rw [← HF3.out]; exact HFB.out)
 have HK4' : Hid (KX W1 w0 w4 (.slice oa2 om2 oc2) (foldS o rs 0)) := qH0 (by rw [← HF3.out]; exact HK4.out)
 have HW4 := qH0 HK4.out.1
 rename Act → World → Prop => K0
 rename ∀ (a_1 : Act) (w_1 : World), _ → K0 a_1 w_1 => hK
 exact hK _ _ (qjN HY HBW HW4 HRS HRP HN HNS hn5 CW CC CT CN CL CA HSO HTY HCVS HKM HFS HFA HF3B HK4' _ _ _ _ _ _ _ _ _ _ _ _ _ _ _ _ _ _ _ _ _ _ _ _ _ _ _ _ _ _ _ _ _ _ _ _ _ _ _ _ _ _ _ _ _ _ _ _ _ _ _ _ _ _ _ _ _ _ _ _ _ _ _ _ _ _ _ _ _ _ _ _ _ _ _ _ _ _ _ _ _ _ _ _ _ _ _ _ _ _ _ _ _ _ _ _ _ _ _ _ _ _ _ _ _ _ _ _ _ _ _ _ _ _ _ _ _ _ _ _ _ _ _ _ _ _ _ _ _ _ _ _ _ _ _ _ _ _ _ _ _ _ _ _ _ _ _ _ _ _ _ _ _ _ _ _ _ _ _ _ _ _ _ _ _ _ _ _ _ _ _ _ _ _ _ _ _ _ _ )
theorem qje {w0 W : World} {base n c : Nat} {a : Option Addr} {csd : List (List Value)} {l : List Rc} (ho : OwnC 7 89 W base (.slice a n c) csd) (h : OfRs w0 W base csd l) (hb : Below w0.heap.size w0 W) : RowC W (.slice a n c) l := by
 have hr : Rcs W csd l := ⟨h.1, fun i a b => (h.2 i a b).rcAt hb⟩
 exact ⟨csd, SlK.of_own ho hr.ck, hr⟩
theorem qg7 (w : World) (v u : Value) (css : List (List Value)) (fs : List Fl) (hA : SlK w v css) (hF : Fls' w css fs) (hU : FlRow w w u fs) (hok : ∀ f ∈ fs, NmOK f.owner) (hl : fs.length ≤ 1000000) :
 Calls Tryz.prog 6 #[v, u] w fun e w' => e = .returned (.bool true) ∧ Below w.heap.size w w' := by
 obtain ⟨ess, hU, hE⟩ := hU
 obtain ⟨a, c, rfl, hcc, -⟩ := id hA
 obtain ⟨a', c', rfl, hcc', -⟩ := id hU
 obtain ⟨n, hn⟩ : ∃ n, fs.length = n := ⟨_, rfl⟩
 have h1 : css.length = n := by rw [hF.1]; exact hn
 have h2 : ess.length = n := by rw [hE.1]; exact hn
 rw [h1] at hA ⊢
 rw [h2] at hU ⊢
 have HA := qH0 hA; have HU := qH0 hU; have HF := qH0 hF; have HE := qH0 hE; have HOK := qH0 hok
 have HN := qH0 hn; have HN1 := qH0 h1; have HN2 := qH0 h2
 have hn6 : n ≤ 1000000 := by omega
 have hnn : (n != n) = false := by simp
 have HC3 := qH0 (show ∀ cs ∈ css, cs.length = 3 from fun cs hc => by
  obtain ⟨i, hi, rfl⟩ := List.mem_iff_getElem.1 hc
  obtain ⟨vo, e, -⟩ := hF.2 i hi (by have := hF.1; omega)
  rw [e]; rfl)
 clear hA hU hF hE hok hl hn h1 h2 hcc hcc'
 go_enter Tryz.func6, Tryz.ntmps6
 go_wp2
 go_loopw [5] (fun vi wr => ∃ k : Nat, vi = .int .i64 k ∧ k ≤ n ∧ Hid (Below w.heap.size w wr)) (fun vi _ => n - (intOf vi).toNat)
 case atStart => exact ⟨0, rfl, Nat.zero_le _, qH0 (qL0)⟩
 case round =>
  obtain ⟨k, rfl, hk, HB⟩ := hrel
  by_cases hlt : k < n
  ·have hltz : (k : Int) < (n : Int) := by omega
   have hk1 : k < css.length := by have := HN1.out; omega
   have hk2 : k < ess.length := by have := HN2.out; omega
   have hk3 : k < fs.length := by have := HN.out; omega
   obtain ⟨b, off, rfl, hb, hel⟩ := HA.out.elem3 HC3.out (by omega)
   obtain ⟨b', off', rfl, hb', hel'⟩ := HU.out.elem3 HE.out.len3 (by omega)
   obtain ⟨vo, e0, hx⟩ := HF.out.2 k hk1 hk3
   obtain ⟨⟨y0, y1, y2⟩, e1, hy⟩ := HE.out.2 k hk2 hk3
   simp only at e1 hy
   have hok := HOK.out _ (List.getElem_mem hk3)
   obtain ⟨f, hf⟩ : ∃ f, fs[k]'hk3 = f := ⟨_, rfl⟩
   rw [hf] at e0 e1 hx hy hok
   obtain ⟨xa, xc, rfl, -⟩ := nmAt_sl.1 hx
   have hc := fun (W : World) (hb : Below w.heap.size w W) => qbS _ (.slice y0 y1 y2) f.owner f.owner true (qc0 _) W (hx.below hb) (hy.below hb) hok hok
   have f0 := fun p : WIn (fun W => Below w.heap.size w W) => (hel k hk1 _ _ _ e0 p.w p.ok).1
   have f1 := fun p : WIn (fun W => Below w.heap.size w W) => (hel k hk1 _ _ _ e0 p.w p.ok).2.1
   have f2 := fun p : WIn (fun W => Below w.heap.size w W) => (hel k hk1 _ _ _ e0 p.w p.ok).2.2
   have g0 := fun p : WIn (fun W => Below w.heap.size w W) => (hel' k hk2 _ _ _ e1 p.w p.ok).1
   have g1 := fun p : WIn (fun W => Below w.heap.size w W) => (hel' k hk2 _ _ _ e1 p.w p.ok).2.1
   have g2 := fun p : WIn (fun W => Below w.heap.size w W) => (hel' k hk2 _ _ _ e1 p.w p.ok).2.2
   have hcf := fun p : WIn (fun W => Below w.heap.size w W) => Calls.cls (C := fun W => Below w.heap.size w W) ((hc p.w p.ok).mono fun _ _ ⟨hq, hb⟩ => ⟨hq, p.ok.trans (hb.mono p.ok.size)⟩)
   have hne : Nonempty (WIn (fun W => Below w.heap.size w W)) := ⟨⟨wr, HB.out⟩⟩
   have hcl : (fun W => Below w.heap.size w W) wr.drew := HB.out.trans ⟨rfl, rfl, rfl, qN0, fun _ _ => rfl⟩
   clear hel hel' hx hy hok e0 e1 hf hc hk1 hk2 hk3 hb hb'
   generalize f.kind = kd at *
   generalize f.ty = ty at *
   generalize (List.map strV f.owner).length = xn at *
   have hkd : (kd != kd) = false := by simp
   have hty : (ty != ty) = false := by simp
   go_wp2_with fail
   refine qad (fun W => Below w.heap.size w W) qae (by kernel_rfl) hcl ?_
   repeat (go_big_quiet_step (exact hcf _))
   refine wpQuiet_nil ?_
   rintro _ ⟨p, rfl⟩
   have HP := qH0 p.ok
   clear hcf f0 f1 f2 g0 g1 g2
   go_wp2
   go_roundw
   case measure => simp [intOf]; omega
   case rel => exact ⟨k + 1, by go_num, by omega, HP⟩
  ·obtain rfl : k = n := by omega
   go_wp2
   go_ret
   exact ⟨rfl, HB.out⟩
theorem fls_ok {o : Nm} {rs : List Rc} (hst : StrictR rs) (hko : NmOK o) (hok : ∀ r ∈ rs, RcOK r) : ∀ f ∈ allF o rs, NmOK f.owner := by
 intro f hf
 unfold allF flawsM at hf
 rcases List.mem_append.1 hf with h | h
 ·rw [(qbE o rs).2.2.2 f h]; exact hko
 ·obtain ⟨s, hs, h⟩ := List.mem_flatMap.1 h
  obtain ⟨k, -, rfl⟩ := List.mem_map.1 h
  exact (qcg hok (by rw [qcc rs hst]; exact hs)).1
theorem qln (o : Nm) (rs : List Rc) : (allF o rs).length ≤ 2 + rs.length * 6 := by
 unfold allF flawsM
 rw [List.length_append]
 have h1 := (qbE o rs).2.2.1
 have h2 := qbL (fun s : St => (kindsM o rs (setsM rs) s).map fun k => (⟨k, s.owner, s.ty⟩ : Fl)) (fun s => by rw [List.length_map]; exact qfX _ _ _ _ _) (setsM rs)
 have h3 := qb5 _ rs (qN0)
 omega
theorem qeA {w : World} (vo vl : Value) (o : Nm) (l : List Rc) (hO : NmArg w vo o) (hL : RowArg w vl l) :
 Calls Tryz.prog 3 #[vo, vl] w fun e w' => e = .returned (.bool true) ∧ Below w.heap.size w w' := by
 have hkn := qhd w
 have HG1 := qH0 (fun (W : World) (hb : Below w.heap.size w W) => qii vo vl o l w W hO hL hb)
 have HNO := qH0 hO.1
 have HLR := qH0 hL.row
 have HLOK := qH0 hL.ok
 obtain ⟨ao, co, rfl, -⟩ := nmAt_sl.1 hO.1
 obtain ⟨qo, hqo⟩ : ∃ k, (List.map strV o).length = k := ⟨_, rfl⟩
 obtain ⟨al, ml, cl, rfl⟩ : ∃ a m c, vl = .slice a m c := by
  obtain ⟨css, ⟨a, c, e, _⟩, _⟩ := hL
  exact ⟨a, _, c, e⟩
 rw [hqo] at HG1 HNO ⊢
 clear hO hL hqo
 go_enter Tryz.func3, Tryz.ntmps3
 go_wp2_with fail
 refine hkn.mono ?_
 rintro e w1 ⟨rfl, hb1⟩
 have HB1 := qH0 hb1
 have hc := HG1.out w1 hb1
 clear hkn hb1 HG1
 go_wp2_with fail
 refine hc.mono ?_
 rintro e w2 ⟨rfl, hb2⟩
 have HB2 := qH0 (qB0 HB1.out hb2)
 clear hb2 hc HB1
 obtain ⟨g1, hg1⟩ : ∃ g, (goodN o && goodRs l) = g := ⟨_, rfl⟩
 have HGG1 := qH0 hg1
 rw [hg1]
 clear hg1
 cases g1
 ·go_wp2
  go_ret
  exact ⟨rfl, HB2.out⟩
 have hg := HGG1.out
 simp only [Bool.and_eq_true] at hg
 have hko : NmOK o := qdS (by have := hg.1; unfold goodN at this; simp only [Bool.and_eq_true] at this; exact this.1)
 have hfr : fewRs l = true := by
  have := hg.2
  unfold goodRs at this; simp only [Bool.and_eq_true] at this; exact this.1
 obtain ⟨hl60, hokl⟩ := HLOK.out hfr
 have hst : StrictR (canonM l) := (qa1 l).up
 have HST := qH0 hst
 have HOKC := qH0 (qbv l hokl)
 have HCL := qH0 (show (canonM l).length ≤ 60 by have := qaD l; omega)
 have HKO := qH0 hko; have HOKL := qH0 hokl; have HL60 := qH0 hl60
 clear hg hko hfr hl60 hokl HLOK HGG1 hst
 have hc := qgz (.slice ao qo co) (.slice al ml cl) o l (HNO.out.below HB2.out) HKO.out (HLR.out.below HB2.out) HOKL.out (by have := HL60.out; omega)
 obtain ⟨C, hC⟩ : ∃ C, canonM l = C := ⟨_, rfl⟩
 have HC := qH0 hC
 rw [hC] at hc HOKC HCL HST
 clear hC
 go_wp2_with fail
 refine hc.mono ?_
 rintro e w5 ⟨za, zn, zc, v1, m, c, rfl, hZ, hb5⟩
 have HB5 := qH0 (qB0 HB2.out hb5)
 have hc := qeB hZ (qcc C HST.out)
 unfold ZnPost at hc
 clear hb5 HB2 hZ
 go_wp2_with fail
 refine hc.mono ?_
 rintro e w6 ⟨v6, css6, fs, rfl, hs6, hf6, hp6, ho6, hb6⟩
 have HFS := qH0 (qkT HST.out hp6 ho6)
 have HFO := qH0 (show ∀ f ∈ fs, NmOK f.owner from fun f hf => fls_ok HST.out HKO.out HOKC.out f (hp6.mem_iff.1 hf))
 have HFL := qH0 (show fs.length ≤ 1000000 by rw [hp6.length_eq]; have := qln o C; have := HCL.out; omega)
 obtain ⟨sa, sc, rfl, -⟩ := id hs6
 generalize css6.length = sn at *
 have HS6 := qH0 hs6; have HF6 := qH0 hf6
 have HB6 := qH0 (qB0 HB5.out hb6)
 clear hc hs6 hf6 hp6 ho6 hb6 HB5
 have hc : Calls Tryz.prog 11 #[.slice al ml cl] w6 (qdD w w6 l) := by
  obtain ⟨css, h1, h2⟩ := HLR.out
  exact qid w (.slice al ml cl) css l w6 h1 h2 HB6.out (fun r hr => (HOKL.out r hr).2.2.2.1) (by rw [h2.1]; have := HL60.out; omega)
 unfold qdD at hc
 go_wp2_with fail
 refine hc.mono ?_
 rintro e w7 ⟨v7, cs7, rfl, ho7, hr7, hb7⟩
 have HB7 := qH0 (qB0 HB6.out hb7)
 have HS7 := qH0 (HS6.out.below hb7); have HF7 := qH0 (HF6.out.below hb7)
 obtain ⟨fa, fc, rfl⟩ := OwnK.shape ho7
 have HR7 := qH0 (qje ho7 hr7 HB7.out)
 generalize List.length cs7 = fn at *
 clear hc ho7 hr7 hb7 HB6 HS6 HF6
 have hc := qk3 (.slice ao qo co) (.slice fa fn fc) o l (HNO.out.below HB7.out) HKO.out HR7.out HOKL.out (by have := HL60.out; omega)
 rw [HC.out] at hc
 go_wp2_with fail
 refine hc.mono ?_
 rintro e w8 ⟨xa, xn, xc, x1, mx, cx, rfl, hZx, hb8⟩
 have HB8 := qH0 (qB0 HB7.out hb8)
 have HS8 := qH0 (HS7.out.below hb8); have HF8 := qH0 (HF7.out.below hb8)
 have hmx : mx ≤ 100000 := by
  obtain ⟨-, -, ⟨css, ⟨_, _, e, -⟩, h2⟩, -⟩ := id hZx
  injection e with _ e _
  have := HCL.out; rw [e, h2.1]; omega
 have hc := qiQ hZx (qL0) HST.out hmx
 rw [← HFS.out] at hc
 unfold qaK at hc
 clear hb8 hZx hmx HB7 HS7 HF7 HR7 HNO HLR
 go_wp2_with fail
 refine hc.mono ?_
 rintro e w9 ⟨v9, rfl, hr9, hb9⟩
 obtain ⟨ta, tc, rfl⟩ := hr9.shape
 obtain ⟨tn, htn⟩ : ∃ t, fs.length = t := ⟨_, rfl⟩
 rw [htn]
 rw [htn] at hr9
 clear htn
 have HB9 := qH0 (qB0 HB8.out hb9)
 have hrow : FlRow w9 w9 (.slice ta tn tc) fs := by
  obtain ⟨css, h1, h2⟩ := hr9
  refine ⟨css, h1, h2.1, fun j a b => ?_⟩
  obtain ⟨x, e, h⟩ := h2.2 j a b
  exact ⟨x, e, h.below hb9⟩
 have hc := qg7 w9 (.slice sa sn sc) (.slice ta tn tc) css6 fs (HS8.out.below hb9) (HF8.out.below hb9) hrow HFO.out HFL.out
 clear hb9 hr9 hrow HS8 HF8 HB8
 go_wp2_with fail
 refine hc.mono ?_
 rintro e wa ⟨rfl, hba⟩
 go_wp2
 go_ret
 exact ⟨rfl, qB0 HB9.out hba⟩
end Go.Proofs.YtnpnfajgphpabaaGreat
