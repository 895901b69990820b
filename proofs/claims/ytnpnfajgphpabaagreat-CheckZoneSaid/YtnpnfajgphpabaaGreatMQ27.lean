import Derived.Deep.RegionHeld3
import Derived.Deep.CutRange
import Derived.Deep.RegionLaw
import Derived.Test.YtnpnfajgphpabaaGreatMQ22
namespace Go.Proofs.YtnpnfajgphpabaaGreat
set_option linter.unusedVariables false
set_option linter.unusedSimpArgs false
set_option linter.unusedVariables false
set_option linter.unusedSimpArgs false
set_option maxRecDepth 100000
set_option maxHeartbeats 16000000
open Go.RowKit Go.Shelf
theorem qaJ (b : Bool) (k : Int) : (iff1 b k).length ≤ 1 := by unfold iff1; split <;> simp
def KiPost (w : World) (l : List Int) (e : Ending) (w' : World) : Prop := ∃ v, e = .returned v ∧ OwnG 3 iv w' w.heap.size v l ∧ Below w.heap.size w w'
structure ViewAt (W : World) (sa : Option Addr) (sn sc : Nat) (za : Option Addr) (zn zc : Nat) (va : Option Addr) (vn vc : Nat) (cv : Value) (o : Nm) (rs2 : List Rc) (ss : List St) (cs : List Nm) : Prop where
 sets : RowS W (.slice sa sn sc) ss
 sok : ∀ s ∈ ss, NmOK s.owner
 sl : ss.length ≤ 1048576
 cuts : ZonS W za zn zc va vn vc o rs2
 cov : NmsAt W cv cs
 cok : ∀ c ∈ cs, NmOK c
 cl : cs.length ≤ 1048576
theorem ViewAt.below {W W' : World} {sa : Option Addr} {sn sc : Nat} {za : Option Addr} {zn zc : Nat} {va : Option Addr} {vn vc : Nat} {cv : Value} {o : Nm} {rs2 : List Rc} {ss : List St} {cs : List Nm} (h : ViewAt W sa sn sc za zn zc va vn vc cv o rs2 ss cs) (hb : Below W.heap.size W W') : ViewAt W' sa sn sc za zn zc va vn vc cv o rs2 ss cs :=
 ⟨h.sets.below hb, h.sok, h.sl, h.cuts.below hb, h.cov.below hb, h.cok, h.cl⟩
theorem qia {w : World} {sa : Option Addr} {sn sc : Nat} {za : Option Addr} {zn zc : Nat} {va : Option Addr} {vn vc : Nat} {ca : Option Addr} {cn cc : Nat} {o : Nm} {rs2 : List Rc} {ss : List St} {cs : List Nm} (p0 : Option Addr) (q0 k0 : Nat) (ty tl : Int) (p3 : Option Addr) (q3 k3 : Nat) (s : St) (hV : ViewAt w sa sn sc za zn zc va vn vc (.slice ca cn cc) o rs2 ss cs) (hs : SetR w [.slice p0 q0 k0, .int .i64 ty, .int .u32 tl, .slice p3 q3 k3] s) (hko : NmOK s.owner) :
 Calls Tryz.prog 21 #[.agg #[.slice sa sn sc, .slice za zn zc, .slice va vn vc, .slice ca cn cc], .agg #[.slice p0 q0 k0, .int .i64 ty, .int .u32 tl, .slice p3 q3 k3]] w (KiPost w (kindsW o (whereM o rs2 s.owner) (otherM ss s) (coverM cs s.owner) s)) := by
 obtain ⟨hown, hty, hq3⟩ := hs.own
 subst hty
 have HWH := qH0 (fun (W : World) (hb : Below w.heap.size w W) => qeZ (hV.cuts.below hb) (hown.below hb) hko)
 have HSM := qH0 (fun (W : World) (hb : Below w.heap.size w W) => qbW (.slice p0 q0 k0) (.slice za zn zc) s.owner o _ rfl W (hown.below hb) (hV.cuts.1.below hb) hko hV.cuts.2.1)
 have HOT := qH0 (fun (W : World) (hb : Below w.heap.size w W) => qgd sa sn sc (.slice za zn zc) (.slice va vn vc) (.slice ca cn cc) ss p0 q0 k0 s.ty tl p3 q3 k3 s W ⟨rfl, rfl, rfl⟩ (hV.sets.below hb) hV.sok hV.sl (hs.below hb) hko)
 have HCV := qH0 (fun (W : World) (hb : Below w.heap.size w W) => qgN (.slice sa sn sc) (.slice za zn zc) (.slice va vn vc) (.slice ca cn cc) cs (.slice p0 q0 k0) s.owner ⟨rfl, rfl, rfl⟩ (hV.cov.below hb) hV.cok hV.cl (hown.below hb) hko)
 have HWI := qH0 (fun (W : World) (hb : Below w.heap.size w W) => qj7 (.slice p0 q0 k0) s.owner _ rfl W (hown.below hb) hko)
 obtain ⟨wh, hwh⟩ : ∃ x, whereM o rs2 s.owner = x := ⟨_, rfl⟩
 obtain ⟨oth, hoth⟩ : ∃ x, otherM ss s = x := ⟨_, rfl⟩
 obtain ⟨cov, hcov⟩ : ∃ x, coverM cs s.owner = x := ⟨_, rfl⟩
 obtain ⟨sm, hsm⟩ : ∃ x, sameN s.owner o = x := ⟨_, rfl⟩
 obtain ⟨wi, hwi⟩ : ∃ x, wildN s.owner = x := ⟨_, rfl⟩
 rw [hwh] at HWH ⊢
 rw [hoth] at HOT ⊢
 rw [hcov] at HCV ⊢
 rw [hsm] at HSM
 rw [hwi] at HWI
 obtain ⟨b4, hb4⟩ : ∃ x, kind4 o wh s = x := ⟨_, rfl⟩
 obtain ⟨b5, hb5⟩ : ∃ x, kind5 oth s = x := ⟨_, rfl⟩
 obtain ⟨b6, hb6⟩ : ∃ x, kind6 s = x := ⟨_, rfl⟩
 obtain ⟨b7, hb7⟩ : ∃ x, kind7 wh s = x := ⟨_, rfl⟩
 obtain ⟨b8, hb8⟩ : ∃ x, kind8 wh cov = x := ⟨_, rfl⟩
 obtain ⟨b9, hb9⟩ : ∃ x, kind9 s = x := ⟨_, rfl⟩
 have HK : Hid (kindsW o wh oth cov s = iff1 b4 4 ++ (iff1 b5 5 ++ (iff1 b6 6 ++ (iff1 b7 7 ++ (iff1 b8 8 ++ iff1 b9 9))))) := qH0 (by unfold kindsW; rw [hb4, hb5, hb6, hb7, hb8, hb9])
 generalize kindsW o wh oth cov s = res at *
 unfold kind4 at hb4; unfold kind5 at hb5; unfold kind6 at hb6; unfold kind7 at hb7; unfold kind8 at hb8; unfold kind9 at hb9
 rw [hsm] at hb4
 rw [hwi] at hb9
 rw [← hq3] at hb6
 generalize s.ty = ty at *
 obtain ⟨adr, hadr⟩ : ∃ x, (decide (ty = 1) || decide (ty = 28)) = x := ⟨_, rfl⟩
 rw [hadr] at hb7
 have HB4 := qH0 hb4; have HB5 := qH0 hb5; have HB6 := qH0 hb6; have HB7 := qH0 hb7; have HB8 := qH0 hb8; have HB9 := qH0 hb9; have HAD := qH0 hadr
 clear hwh hoth hcov hsm hwi hb4 hb5 hb6 hb7 hb8 hb9 hadr hq3 hown hV hs hko
 go_enter Tryz.func21, Tryz.ntmps21
 obtain ⟨W0, hW0⟩ : ∃ W0, ((w.alloc (.cells #[.slice sa sn sc, .slice za zn zc, .slice va vn vc, .slice ca cn cc] 60)).alloc (.cells #[.slice p0 q0 k0, .int .i64 ty, .int .u32 tl, .slice p3 q3 k3] 67)) = W0 := ⟨_, rfl⟩
 have HB0 : Hid (Below w.heap.size w W0) := qH0 (by rw [← hW0]; exact ((Below.refl w.heap.size w).alloc (qN0) _).alloc (by simp) _)
 have x0 : W0.heap[w.heap.size]? = some (.cells #[.slice sa sn sc, .slice za zn zc, .slice va vn vc, .slice ca cn cc] 60) := by
  rw [← hW0]; exact (Below.heap_alloc _ _ _ (by simp)).trans (knew w _)
 have x1 : W0.heap[w.heap.size + 1]? = some (.cells #[.slice p0 q0 k0, .int .i64 ty, .int .u32 tl, .slice p3 q3 k3] 67) := by
  have h := knew (w.alloc (.cells #[.slice sa sn sc, .slice za zn zc, .slice va vn vc, .slice ca cn cc] 60)) (.cells #[.slice p0 q0 k0, .int .i64 ty, .int .u32 tl, .slice p3 q3 k3] 67)
  rw [World.size_alloc] at h
  rw [← hW0]; exact h
 have KX : Hid (∀ W, Below W0.heap.size W0 W → W.heap[w.heap.size]? = some (.cells #[.slice sa sn sc, .slice za zn zc, .slice va vn vc, .slice ca cn cc] 60) ∧ W.heap[w.heap.size + 1]? = some (.cells #[.slice p0 q0 k0, .int .i64 ty, .int .u32 tl, .slice p3 q3 k3] 67) ∧ Below w.heap.size w W) := qH0 fun W hW => ⟨(hW.block _ (qaa x0)).trans x0, (hW.block _ (qaa x1)).trans x1, qB0 HB0.out hW⟩
 have hc := HWH.out W0 HB0.out
 have y1 := kcell x0 1 _ rfl; have y2 := kcell x0 2 _ rfl; have u0 := kcell x1 0 _ rfl
 clear x0 x1 HWH
 go_wp2_with fail
 clear hW0
 refine hc.mono ?_
 rintro e w1 ⟨rfl, hb1⟩
 clear hc y1 y2 u0
 have HBr : Hid (Below W0.heap.size W0 w1) := qH0 hb1
 have HOr : Hid (OwnG 3 iv w1 W0.heap.size (.slice none 0 0) []) := qH0 (OwnG.nil _ _)
 clear hb1
 go_upto_region 3 with (fail)
 go_cut [28] (fun v wx => v = .bool b4 ∧ Hid (Below W0.heap.size W0 wx) ∧ Hid (OwnG 3 iv wx W0.heap.size (.slice none 0 0) ([])))
 case first =>
  obtain ⟨x0, x1, hww⟩ := KX.out w1 HBr.out
  have y0 := kcell x0 0 _ rfl; have y1 := kcell x0 1 _ rfl; have y2 := kcell x0 2 _ rfl; have y3 := kcell x0 3 _ rfl
  have u0 := kcell x1 0 _ rfl; have u1 := kcell x1 1 _ rfl; have u2 := kcell x1 2 _ rfl; have u3 := kcell x1 3 _ rfl
  have HWW := qH0 hww
  clear x0 x1 hww
  by_cases h0 : wh = 0
  ·subst h0
   have HE : Hid (b4 = true) := qH0 (by rw [← HB4.out]; simp [*])
   go_wp2_with fail
   go_meet
   exact ⟨by rw [HE.out], HBr, HOr⟩
  ·have h0b : (wh == 0) = false := by simpa using h0
   by_cases h6 : ty = 6
   ·subst h6
    cases sm
    ·have HE : Hid (b4 = true) := qH0 (by rw [← HB4.out]; simp [*])
     have hc := HSM.out _ HWW.out
     go_wp2_with fail
     refine hc.mono ?_
     rintro e w9 ⟨rfl, hb9⟩
     have HB9' : Hid (Below W0.heap.size W0 w9) := qH0 (qB0 HBr.out hb9)
     have HO9 : Hid (OwnG 3 iv w9 W0.heap.size (.slice none 0 0) ([])) := qH0 (OwnG.below HOr.out hb9)
     clear hc hb9 y0 y1 y2 y3 u0 u1 u2 u3
     go_wp2_with fail
     go_meet
     exact ⟨by rw [HE.out], HB9', HO9⟩
    ·have HE : Hid (b4 = false) := qH0 (by rw [← HB4.out]; simp [*])
     have hc := HSM.out _ HWW.out
     go_wp2_with fail
     refine hc.mono ?_
     rintro e w9 ⟨rfl, hb9⟩
     have HB9' : Hid (Below W0.heap.size W0 w9) := qH0 (qB0 HBr.out hb9)
     have HO9 : Hid (OwnG 3 iv w9 W0.heap.size (.slice none 0 0) ([])) := qH0 (OwnG.below HOr.out hb9)
     clear hc hb9 y0 y1 y2 y3 u0 u1 u2 u3
     go_wp2_with fail
     go_meet
     exact ⟨by rw [HE.out], HB9', HO9⟩
   ·have h6b : (ty == 6) = false := by simpa using h6
    have HE : Hid (b4 = false) := qH0 (by rw [← HB4.out]; simp [*])
    go_wp2_with fail
    go_meet
    exact ⟨by rw [HE.out], HBr, HOr⟩
 case rest =>
 rename World => w2
 obtain ⟨rfl, HBr2, HOr2⟩ := hcut
 clear HBr HOr
 have HBr := HBr2; have HOr := HOr2
 clear HBr2 HOr2
 go_upto_if 28 with (fail)
 go_cut [5] (fun v wx => ∃ (a : Option Addr) (m c : Nat), v = .slice a m c ∧ Hid (Below W0.heap.size W0 wx) ∧ Hid (OwnG 3 iv wx W0.heap.size (.slice a m c) (iff1 b4 4)))
 case first =>
  cases b4
  ·go_wp2_with fail
   go_meet
   exact ⟨_, _, _, rfl, HBr, qH0 (by have h := HOr.out; simpa [iff1] using h)⟩
  ·have hz := HBr.out.size
   have HLn : Hid ((([] : List Int)).length ≤ 5) := qH0 (by (try simp only [List.length_append, List.length_nil]); omega)
   go_wp2_with (at_builtin; (refine qaN w2 rfl (.tmp 29) (.tmp 30) qbD rfl (fun _ => rfl) W0.heap.size (.slice none 0 0) ([]) rfl HOr.out [.int .i64 4] [4] rfl 1 1 rfl rfl hz (by have := HLn.out; unfold maxLen; simp only [List.length_cons, List.length_nil] at *; omega) (by have := HLn.out; simp only [List.length_cons, List.length_nil] at *; omega) ?_); intro v3 w9 hown3 hg3)
   have HB9' : Hid (Below W0.heap.size W0 w9) := qH0 (HBr.out.grown hg3 hz HOr.out.base_le)
   obtain ⟨a9, m9, c9, rfl⟩ : ∃ a m c, v3 = .slice a m c := by obtain ⟨a, c, e⟩ := hown3.shape; exact ⟨_, _, _, e⟩
   have HO9 := qH0 hown3
   clear hown3 hg3 hz
   go_meet
   exact ⟨_, _, _, rfl, HB9', qH0 (by have h := HO9.out; simpa [iff1] using h)⟩
 case rest =>
 rename World => w3
 obtain ⟨a3, m3, c3, rfl, HBr2, HOr2⟩ := hcut
 clear HBr HOr
 have HBr := HBr2; have HOr := HOr2
 clear HBr2 HOr2
 go_upto_region 5 with (fail)
 go_cut [39] (fun v wx => v = .bool b5 ∧ Hid (Below W0.heap.size W0 wx) ∧ Hid (OwnG 3 iv wx W0.heap.size (.slice a3 m3 c3) (iff1 b4 4)))
 case first =>
  obtain ⟨x0, x1, hww⟩ := KX.out w3 HBr.out
  have y0 := kcell x0 0 _ rfl; have y1 := kcell x0 1 _ rfl; have y2 := kcell x0 2 _ rfl; have y3 := kcell x0 3 _ rfl
  have u0 := kcell x1 0 _ rfl; have u1 := kcell x1 1 _ rfl; have u2 := kcell x1 2 _ rfl; have u3 := kcell x1 3 _ rfl
  have HWW := qH0 hww
  clear x0 x1 hww
  by_cases h5 : ty = 5
  ·subst h5
   cases oth
   ·have HE : Hid (b5 = false) := qH0 (by rw [← HB5.out]; simp [*])
    have hc := HOT.out _ HWW.out
    go_wp2_with fail
    refine hc.mono ?_
    rintro e w9 ⟨rfl, hb9⟩
    have HB9' : Hid (Below W0.heap.size W0 w9) := qH0 (qB0 HBr.out hb9)
    have HO9 : Hid (OwnG 3 iv w9 W0.heap.size (.slice a3 m3 c3) (iff1 b4 4)) := qH0 (OwnG.below HOr.out hb9)
    clear hc hb9 y0 y1 y2 y3 u0 u1 u2 u3
    go_wp2_with fail
    go_meet
    exact ⟨by rw [HE.out], HB9', HO9⟩
   ·have HE : Hid (b5 = true) := qH0 (by rw [← HB5.out]; simp [*])
    have hc := HOT.out _ HWW.out
    go_wp2_with fail
    refine hc.mono ?_
    rintro e w9 ⟨rfl, hb9⟩
    have HB9' : Hid (Below W0.heap.size W0 w9) := qH0 (qB0 HBr.out hb9)
    have HO9 : Hid (OwnG 3 iv w9 W0.heap.size (.slice a3 m3 c3) (iff1 b4 4)) := qH0 (OwnG.below HOr.out hb9)
    clear hc hb9 y0 y1 y2 y3 u0 u1 u2 u3
    go_wp2_with fail
    go_meet
    exact ⟨by rw [HE.out], HB9', HO9⟩
  ·have h5b : (ty == 5) = false := by simpa using h5
   have HE : Hid (b5 = false) := qH0 (by rw [← HB5.out]; simp [*])
   go_wp2_with fail
   go_meet
   exact ⟨by rw [HE.out], HBr, HOr⟩
 case rest =>
 rename World => w4
 obtain ⟨rfl, HBr2, HOr2⟩ := hcut
 clear HBr HOr
 have HBr := HBr2; have HOr := HOr2
 clear HBr2 HOr2
 go_upto_if 39 with (fail)
 go_cut [5] (fun v wx => ∃ (a : Option Addr) (m c : Nat), v = .slice a m c ∧ Hid (Below W0.heap.size W0 wx) ∧ Hid (OwnG 3 iv wx W0.heap.size (.slice a m c) (iff1 b4 4 ++ iff1 b5 5)))
 case first =>
  cases b5
  ·go_wp2_with fail
   go_meet
   exact ⟨_, _, _, rfl, HBr, qH0 (by have h := HOr.out; simpa [iff1] using h)⟩
  ·have hz := HBr.out.size
   have HLn : Hid ((iff1 b4 4).length ≤ 5) := qH0 (by have := qaJ b4 4; (try simp only [List.length_append, List.length_nil]); omega)
   go_wp2_with (at_builtin; (refine qaN w4 rfl (.tmp 40) (.tmp 41) qbD rfl (fun _ => rfl) W0.heap.size (.slice a3 m3 c3) (iff1 b4 4) rfl HOr.out [.int .i64 5] [5] rfl 1 1 rfl rfl hz (by have := HLn.out; unfold maxLen; simp only [List.length_cons, List.length_nil] at *; omega) (by have := HLn.out; simp only [List.length_cons, List.length_nil] at *; omega) ?_); intro v3 w9 hown3 hg3)
   have HB9' : Hid (Below W0.heap.size W0 w9) := qH0 (HBr.out.grown hg3 hz HOr.out.base_le)
   obtain ⟨a9, m9, c9, rfl⟩ : ∃ a m c, v3 = .slice a m c := by obtain ⟨a, c, e⟩ := hown3.shape; exact ⟨_, _, _, e⟩
   have HO9 := qH0 hown3
   clear hown3 hg3 hz
   go_meet
   exact ⟨_, _, _, rfl, HB9', qH0 (by have h := HO9.out; simpa [iff1] using h)⟩
 case rest =>
 rename World => w5
 obtain ⟨a5, m5, c5, rfl, HBr2, HOr2⟩ := hcut
 clear HBr HOr
 have HBr := HBr2; have HOr := HOr2
 clear HBr2 HOr2
 go_upto_region 7 with (fail)
 go_cut [56] (fun v wx => v = .bool b6 ∧ Hid (Below W0.heap.size W0 wx) ∧ Hid (OwnG 3 iv wx W0.heap.size (.slice a5 m5 c5) (iff1 b4 4 ++ iff1 b5 5)))
 case first =>
  obtain ⟨x0, x1, hww⟩ := KX.out w5 HBr.out
  have y0 := kcell x0 0 _ rfl; have y1 := kcell x0 1 _ rfl; have y2 := kcell x0 2 _ rfl; have y3 := kcell x0 3 _ rfl
  have u0 := kcell x1 0 _ rfl; have u1 := kcell x1 1 _ rfl; have u2 := kcell x1 2 _ rfl; have u3 := kcell x1 3 _ rfl
  have HWW := qH0 hww
  clear x0 x1 hww
  by_cases h5 : ty = 5
  ·subst h5
   by_cases hq : 1 < q3
   ·have hqz : (1 : Int) < (q3 : Int) := by omega
    have HE : Hid (b6 = true) := qH0 (by rw [← HB6.out]; simp [*])
    go_wp2_with fail
    go_meet
    exact ⟨by rw [HE.out], HBr, HOr⟩
   ·have hqz : ¬ (1 : Int) < (q3 : Int) := by omega
    have HE : Hid (b6 = false) := qH0 (by rw [← HB6.out]; simp [*])
    go_wp2_with fail
    go_meet
    exact ⟨by rw [HE.out], HBr, HOr⟩
  ·have h5b : (ty == 5) = false := by simpa using h5
   by_cases h39 : ty = 39
   ·subst h39
    by_cases hq : 1 < q3
    ·have hqz : (1 : Int) < (q3 : Int) := by omega
     have HE : Hid (b6 = true) := qH0 (by rw [← HB6.out]; simp [*])
     go_wp2_with fail
     go_meet
     exact ⟨by rw [HE.out], HBr, HOr⟩
    ·have hqz : ¬ (1 : Int) < (q3 : Int) := by omega
     have HE : Hid (b6 = false) := qH0 (by rw [← HB6.out]; simp [*])
     go_wp2_with fail
     go_meet
     exact ⟨by rw [HE.out], HBr, HOr⟩
   ·have h39b : (ty == 39) = false := by simpa using h39
    have HE : Hid (b6 = false) := qH0 (by rw [← HB6.out]; simp [*])
    go_wp2_with fail
    go_meet
    exact ⟨by rw [HE.out], HBr, HOr⟩
 case rest =>
 rename World => w6
 obtain ⟨rfl, HBr2, HOr2⟩ := hcut
 clear HBr HOr
 have HBr := HBr2; have HOr := HOr2
 clear HBr2 HOr2
 go_upto_if 56 with (fail)
 go_cut [5] (fun v wx => ∃ (a : Option Addr) (m c : Nat), v = .slice a m c ∧ Hid (Below W0.heap.size W0 wx) ∧ Hid (OwnG 3 iv wx W0.heap.size (.slice a m c) (iff1 b4 4 ++ iff1 b5 5 ++ iff1 b6 6)))
 case first =>
  cases b6
  ·go_wp2_with fail
   go_meet
   exact ⟨_, _, _, rfl, HBr, qH0 (by have h := HOr.out; simpa [iff1] using h)⟩
  ·have hz := HBr.out.size
   have HLn : Hid ((iff1 b4 4 ++ iff1 b5 5).length ≤ 5) := qH0 (by have := qaJ b4 4; have := qaJ b5 5; (try simp only [List.length_append, List.length_nil]); omega)
   go_wp2_with (at_builtin; (refine qaN w6 rfl (.tmp 57) (.tmp 58) qbD rfl (fun _ => rfl) W0.heap.size (.slice a5 m5 c5) (iff1 b4 4 ++ iff1 b5 5) rfl HOr.out [.int .i64 6] [6] rfl 1 1 rfl rfl hz (by have := HLn.out; unfold maxLen; simp only [List.length_cons, List.length_nil] at *; omega) (by have := HLn.out; simp only [List.length_cons, List.length_nil] at *; omega) ?_); intro v3 w9 hown3 hg3)
   have HB9' : Hid (Below W0.heap.size W0 w9) := qH0 (HBr.out.grown hg3 hz HOr.out.base_le)
   obtain ⟨a9, m9, c9, rfl⟩ : ∃ a m c, v3 = .slice a m c := by obtain ⟨a, c, e⟩ := hown3.shape; exact ⟨_, _, _, e⟩
   have HO9 := qH0 hown3
   clear hown3 hg3 hz
   go_meet
   exact ⟨_, _, _, rfl, HB9', qH0 (by have h := HO9.out; simpa [iff1] using h)⟩
 case rest =>
 rename World => w7
 obtain ⟨a7, m7, c7, rfl, HBr2, HOr2⟩ := hcut
 clear HBr HOr
 have HBr := HBr2; have HOr := HOr2
 clear HBr2 HOr2
 have HBD := HAD
 go_upto_region 9 with (fail)
 go_cut [7] (fun v wx => v = .bool adr ∧ Hid (Below W0.heap.size W0 wx) ∧ Hid (OwnG 3 iv wx W0.heap.size (.slice a7 m7 c7) (iff1 b4 4 ++ iff1 b5 5 ++ iff1 b6 6)))
 case first =>
  obtain ⟨x0, x1, hww⟩ := KX.out w7 HBr.out
  have y0 := kcell x0 0 _ rfl; have y1 := kcell x0 1 _ rfl; have y2 := kcell x0 2 _ rfl; have y3 := kcell x0 3 _ rfl
  have u0 := kcell x1 0 _ rfl; have u1 := kcell x1 1 _ rfl; have u2 := kcell x1 2 _ rfl; have u3 := kcell x1 3 _ rfl
  have HWW := qH0 hww
  clear x0 x1 hww
  by_cases h1 : ty = 1
  ·subst h1
   have HE : Hid (adr = true) := qH0 (by rw [← HAD.out]; simp [*])
   go_wp2_with fail
   go_meet
   exact ⟨by rw [HE.out], HBr, HOr⟩
  ·have h1b : (ty == 1) = false := by simpa using h1
   by_cases h28 : ty = 28
   ·subst h28
    have HE : Hid (adr = true) := qH0 (by rw [← HAD.out]; simp [*])
    go_wp2_with fail
    go_meet
    exact ⟨by rw [HE.out], HBr, HOr⟩
   ·have h28b : (ty == 28) = false := by simpa using h28
    have HE : Hid (adr = false) := qH0 (by rw [← HAD.out]; simp [*])
    go_wp2_with fail
    go_meet
    exact ⟨by rw [HE.out], HBr, HOr⟩
 case rest =>
 rename World => w8
 obtain ⟨rfl, HBr2, HOr2⟩ := hcut
 clear HBr HOr
 have HBr := HBr2; have HOr := HOr2
 clear HBr2 HOr2
 go_upto_region 10 with (fail)
 go_cut [86] (fun v wx => v = .bool b7 ∧ Hid (Below W0.heap.size W0 wx) ∧ Hid (OwnG 3 iv wx W0.heap.size (.slice a7 m7 c7) (iff1 b4 4 ++ iff1 b5 5 ++ iff1 b6 6)))
 case first =>
  obtain ⟨x0, x1, hww⟩ := KX.out w8 HBr.out
  have y0 := kcell x0 0 _ rfl; have y1 := kcell x0 1 _ rfl; have y2 := kcell x0 2 _ rfl; have y3 := kcell x0 3 _ rfl
  have u0 := kcell x1 0 _ rfl; have u1 := kcell x1 1 _ rfl; have u2 := kcell x1 2 _ rfl; have u3 := kcell x1 3 _ rfl
  have HWW := qH0 hww
  clear x0 x1 hww
  by_cases h2 : wh = 2
  ·subst h2
   cases adr
   ·by_cases t2 : ty = 2
    ·subst t2
     have HE : Hid (b7 = false) := qH0 (by rw [← HB7.out]; simp [*])
     go_wp2_with fail
     go_meet
     exact ⟨by rw [HE.out], HBr, HOr⟩
    ·have t2b : (ty == 2) = false := by simpa using t2
     have HE : Hid (b7 = true) := qH0 (by rw [← HB7.out]; simp [*])
     go_wp2_with fail
     go_meet
     exact ⟨by rw [HE.out], HBr, HOr⟩
   ·have HE : Hid (b7 = false) := qH0 (by rw [← HB7.out]; simp [*])
    go_wp2_with fail
    go_meet
    exact ⟨by rw [HE.out], HBr, HOr⟩
  ·have h2b : (wh == 2) = false := by simpa using h2
   by_cases h3 : wh = 3
   ·subst h3
    cases adr
    ·have HE : Hid (b7 = true) := qH0 (by rw [← HB7.out]; simp [*])
     go_wp2_with fail
     go_meet
     exact ⟨by rw [HE.out], HBr, HOr⟩
    ·have HE : Hid (b7 = false) := qH0 (by rw [← HB7.out]; simp [*])
     go_wp2_with fail
     go_meet
     exact ⟨by rw [HE.out], HBr, HOr⟩
   ·have h3b : (wh == 3) = false := by simpa using h3
    have HE : Hid (b7 = false) := qH0 (by rw [← HB7.out]; simp [*])
    go_wp2_with fail
    go_meet
    exact ⟨by rw [HE.out], HBr, HOr⟩
 case rest =>
 rename World => w9
 obtain ⟨rfl, HBr2, HOr2⟩ := hcut
 clear HBr HOr
 have HBr := HBr2; have HOr := HOr2
 clear HBr2 HOr2
 go_upto_if 86 with (fail)
 go_cut [5] (fun v wx => ∃ (a : Option Addr) (m c : Nat), v = .slice a m c ∧ Hid (Below W0.heap.size W0 wx) ∧ Hid (OwnG 3 iv wx W0.heap.size (.slice a m c) (iff1 b4 4 ++ iff1 b5 5 ++ iff1 b6 6 ++ iff1 b7 7)))
 case first =>
  cases b7
  ·go_wp2_with fail
   go_meet
   exact ⟨_, _, _, rfl, HBr, qH0 (by have h := HOr.out; simpa [iff1] using h)⟩
  ·have hz := HBr.out.size
   have HLn : Hid ((iff1 b4 4 ++ iff1 b5 5 ++ iff1 b6 6).length ≤ 5) := qH0 (by have := qaJ b4 4; have := qaJ b5 5; have := qaJ b6 6; (try simp only [List.length_append, List.length_nil]); omega)
   go_wp2_with (at_builtin; (refine qaN w9 rfl (.tmp 87) (.tmp 88) qbD rfl (fun _ => rfl) W0.heap.size (.slice a7 m7 c7) (iff1 b4 4 ++ iff1 b5 5 ++ iff1 b6 6) rfl HOr.out [.int .i64 7] [7] rfl 1 1 rfl rfl hz (by have := HLn.out; unfold maxLen; simp only [List.length_cons, List.length_nil] at *; omega) (by have := HLn.out; simp only [List.length_cons, List.length_nil] at *; omega) ?_); intro v3 w9 hown3 hg3)
   have HB9' : Hid (Below W0.heap.size W0 w9) := qH0 (HBr.out.grown hg3 hz HOr.out.base_le)
   obtain ⟨a9, m9, c9, rfl⟩ : ∃ a m c, v3 = .slice a m c := by obtain ⟨a, c, e⟩ := hown3.shape; exact ⟨_, _, _, e⟩
   have HO9 := qH0 hown3
   clear hown3 hg3 hz
   go_meet
   exact ⟨_, _, _, rfl, HB9', qH0 (by have h := HO9.out; simpa [iff1] using h)⟩
 case rest =>
 rename World => w10
 obtain ⟨a10, m10, c10, rfl, HBr2, HOr2⟩ := hcut
 clear HBr HOr
 have HBr := HBr2; have HOr := HOr2
 clear HBr2 HOr2
 go_upto_region 12 with (fail)
 go_cut [97] (fun v wx => v = .bool b8 ∧ Hid (Below W0.heap.size W0 wx) ∧ Hid (OwnG 3 iv wx W0.heap.size (.slice a10 m10 c10) (iff1 b4 4 ++ iff1 b5 5 ++ iff1 b6 6 ++ iff1 b7 7)))
 case first =>
  obtain ⟨x0, x1, hww⟩ := KX.out w10 HBr.out
  have y0 := kcell x0 0 _ rfl; have y1 := kcell x0 1 _ rfl; have y2 := kcell x0 2 _ rfl; have y3 := kcell x0 3 _ rfl
  have u0 := kcell x1 0 _ rfl; have u1 := kcell x1 1 _ rfl; have u2 := kcell x1 2 _ rfl; have u3 := kcell x1 3 _ rfl
  have HWW := qH0 hww
  clear x0 x1 hww
  by_cases h1 : wh = 1
  ·subst h1
   cases cov
   ·have HE : Hid (b8 = false) := qH0 (by rw [← HB8.out]; simp [*])
    have hc := HCV.out _ HWW.out
    go_wp2_with fail
    refine hc.mono ?_
    rintro e w9 ⟨rfl, hb9⟩
    have HB9' : Hid (Below W0.heap.size W0 w9) := qH0 (qB0 HBr.out hb9)
    have HO9 : Hid (OwnG 3 iv w9 W0.heap.size (.slice a10 m10 c10) (iff1 b4 4 ++ iff1 b5 5 ++ iff1 b6 6 ++ iff1 b7 7)) := qH0 (OwnG.below HOr.out hb9)
    clear hc hb9 y0 y1 y2 y3 u0 u1 u2 u3
    go_wp2_with fail
    go_meet
    exact ⟨by rw [HE.out], HB9', HO9⟩
   ·have HE : Hid (b8 = true) := qH0 (by rw [← HB8.out]; simp [*])
    have hc := HCV.out _ HWW.out
    go_wp2_with fail
    refine hc.mono ?_
    rintro e w9 ⟨rfl, hb9⟩
    have HB9' : Hid (Below W0.heap.size W0 w9) := qH0 (qB0 HBr.out hb9)
    have HO9 : Hid (OwnG 3 iv w9 W0.heap.size (.slice a10 m10 c10) (iff1 b4 4 ++ iff1 b5 5 ++ iff1 b6 6 ++ iff1 b7 7)) := qH0 (OwnG.below HOr.out hb9)
    clear hc hb9 y0 y1 y2 y3 u0 u1 u2 u3
    go_wp2_with fail
    go_meet
    exact ⟨by rw [HE.out], HB9', HO9⟩
  ·have h1b : (wh == 1) = false := by simpa using h1
   have HE : Hid (b8 = false) := qH0 (by rw [← HB8.out]; simp [*])
   go_wp2_with fail
   go_meet
   exact ⟨by rw [HE.out], HBr, HOr⟩
 case rest =>
 rename World => w11
 obtain ⟨rfl, HBr2, HOr2⟩ := hcut
 clear HBr HOr
 have HBr := HBr2; have HOr := HOr2
 clear HBr2 HOr2
 go_upto_if 97 with (fail)
 go_cut [5] (fun v wx => ∃ (a : Option Addr) (m c : Nat), v = .slice a m c ∧ Hid (Below W0.heap.size W0 wx) ∧ Hid (OwnG 3 iv wx W0.heap.size (.slice a m c) (iff1 b4 4 ++ iff1 b5 5 ++ iff1 b6 6 ++ iff1 b7 7 ++ iff1 b8 8)))
 case first =>
  cases b8
  ·go_wp2_with fail
   go_meet
   exact ⟨_, _, _, rfl, HBr, qH0 (by have h := HOr.out; simpa [iff1] using h)⟩
  ·have hz := HBr.out.size
   have HLn : Hid ((iff1 b4 4 ++ iff1 b5 5 ++ iff1 b6 6 ++ iff1 b7 7).length ≤ 5) := qH0 (by have := qaJ b4 4; have := qaJ b5 5; have := qaJ b6 6; have := qaJ b7 7; (try simp only [List.length_append, List.length_nil]); omega)
   go_wp2_with (at_builtin; (refine qaN w11 rfl (.tmp 98) (.tmp 99) qbD rfl (fun _ => rfl) W0.heap.size (.slice a10 m10 c10) (iff1 b4 4 ++ iff1 b5 5 ++ iff1 b6 6 ++ iff1 b7 7) rfl HOr.out [.int .i64 8] [8] rfl 1 1 rfl rfl hz (by have := HLn.out; unfold maxLen; simp only [List.length_cons, List.length_nil] at *; omega) (by have := HLn.out; simp only [List.length_cons, List.length_nil] at *; omega) ?_); intro v3 w9 hown3 hg3)
   have HB9' : Hid (Below W0.heap.size W0 w9) := qH0 (HBr.out.grown hg3 hz HOr.out.base_le)
   obtain ⟨a9, m9, c9, rfl⟩ : ∃ a m c, v3 = .slice a m c := by obtain ⟨a, c, e⟩ := hown3.shape; exact ⟨_, _, _, e⟩
   have HO9 := qH0 hown3
   clear hown3 hg3 hz
   go_meet
   exact ⟨_, _, _, rfl, HB9', qH0 (by have h := HO9.out; simpa [iff1] using h)⟩
 case rest =>
 rename World => w12
 obtain ⟨a12, m12, c12, rfl, HBr2, HOr2⟩ := hcut
 clear HBr HOr
 have HBr := HBr2; have HOr := HOr2
 clear HBr2 HOr2
 go_upto_region 14 with (fail)
 go_cut [108] (fun v wx => v = .bool b9 ∧ Hid (Below W0.heap.size W0 wx) ∧ Hid (OwnG 3 iv wx W0.heap.size (.slice a12 m12 c12) (iff1 b4 4 ++ iff1 b5 5 ++ iff1 b6 6 ++ iff1 b7 7 ++ iff1 b8 8)))
 case first =>
  obtain ⟨x0, x1, hww⟩ := KX.out w12 HBr.out
  have y0 := kcell x0 0 _ rfl; have y1 := kcell x0 1 _ rfl; have y2 := kcell x0 2 _ rfl; have y3 := kcell x0 3 _ rfl
  have u0 := kcell x1 0 _ rfl; have u1 := kcell x1 1 _ rfl; have u2 := kcell x1 2 _ rfl; have u3 := kcell x1 3 _ rfl
  have HWW := qH0 hww
  clear x0 x1 hww
  by_cases h2 : ty = 2
  ·subst h2
   cases wi
   ·have HE : Hid (b9 = false) := qH0 (by rw [← HB9.out]; simp [*])
    have hc := HWI.out _ HWW.out
    go_wp2_with fail
    refine hc.mono ?_
    rintro e w9 ⟨rfl, hb9⟩
    have HB9' : Hid (Below W0.heap.size W0 w9) := qH0 (qB0 HBr.out hb9)
    have HO9 : Hid (OwnG 3 iv w9 W0.heap.size (.slice a12 m12 c12) (iff1 b4 4 ++ iff1 b5 5 ++ iff1 b6 6 ++ iff1 b7 7 ++ iff1 b8 8)) := qH0 (OwnG.below HOr.out hb9)
    clear hc hb9 y0 y1 y2 y3 u0 u1 u2 u3
    go_wp2_with fail
    go_meet
    exact ⟨by rw [HE.out], HB9', HO9⟩
   ·have HE : Hid (b9 = true) := qH0 (by rw [← HB9.out]; simp [*])
    have hc := HWI.out _ HWW.out
    go_wp2_with fail
    refine hc.mono ?_
    rintro e w9 ⟨rfl, hb9⟩
    have HB9' : Hid (Below W0.heap.size W0 w9) := qH0 (qB0 HBr.out hb9)
    have HO9 : Hid (OwnG 3 iv w9 W0.heap.size (.slice a12 m12 c12) (iff1 b4 4 ++ iff1 b5 5 ++ iff1 b6 6 ++ iff1 b7 7 ++ iff1 b8 8)) := qH0 (OwnG.below HOr.out hb9)
    clear hc hb9 y0 y1 y2 y3 u0 u1 u2 u3
    go_wp2_with fail
    go_meet
    exact ⟨by rw [HE.out], HB9', HO9⟩
  ·have h2b : (ty == 2) = false := by simpa using h2
   have HE : Hid (b9 = false) := qH0 (by rw [← HB9.out]; simp [*])
   go_wp2_with fail
   go_meet
   exact ⟨by rw [HE.out], HBr, HOr⟩
 case rest =>
 rename World => w13
 obtain ⟨rfl, HBr2, HOr2⟩ := hcut
 clear HBr HOr
 have HBr := HBr2; have HOr := HOr2
 clear HBr2 HOr2
 go_upto_if 108 with (fail)
 go_cut [5] (fun v wx => ∃ (a : Option Addr) (m c : Nat), v = .slice a m c ∧ Hid (Below W0.heap.size W0 wx) ∧ Hid (OwnG 3 iv wx W0.heap.size (.slice a m c) (iff1 b4 4 ++ iff1 b5 5 ++ iff1 b6 6 ++ iff1 b7 7 ++ iff1 b8 8 ++ iff1 b9 9)))
 case first =>
  cases b9
  ·go_wp2_with fail
   go_meet
   exact ⟨_, _, _, rfl, HBr, qH0 (by have h := HOr.out; simpa [iff1] using h)⟩
  ·have hz := HBr.out.size
   have HLn : Hid ((iff1 b4 4 ++ iff1 b5 5 ++ iff1 b6 6 ++ iff1 b7 7 ++ iff1 b8 8).length ≤ 5) := qH0 (by have := qaJ b4 4; have := qaJ b5 5; have := qaJ b6 6; have := qaJ b7 7; have := qaJ b8 8; (try simp only [List.length_append, List.length_nil]); omega)
   go_wp2_with (at_builtin; (refine qaN w13 rfl (.tmp 109) (.tmp 110) qbD rfl (fun _ => rfl) W0.heap.size (.slice a12 m12 c12) (iff1 b4 4 ++ iff1 b5 5 ++ iff1 b6 6 ++ iff1 b7 7 ++ iff1 b8 8) rfl HOr.out [.int .i64 9] [9] rfl 1 1 rfl rfl hz (by have := HLn.out; unfold maxLen; simp only [List.length_cons, List.length_nil] at *; omega) (by have := HLn.out; simp only [List.length_cons, List.length_nil] at *; omega) ?_); intro v3 w9 hown3 hg3)
   have HB9' : Hid (Below W0.heap.size W0 w9) := qH0 (HBr.out.grown hg3 hz HOr.out.base_le)
   obtain ⟨a9, m9, c9, rfl⟩ : ∃ a m c, v3 = .slice a m c := by obtain ⟨a, c, e⟩ := hown3.shape; exact ⟨_, _, _, e⟩
   have HO9 := qH0 hown3
   clear hown3 hg3 hz
   go_meet
   exact ⟨_, _, _, rfl, HB9', qH0 (by have h := HO9.out; simpa [iff1] using h)⟩
 case rest =>
 rename World => w14
 obtain ⟨a14, m14, c14, rfl, HBr2, HOr2⟩ := hcut
 clear HBr HOr
 have HBr := HBr2; have HOr := HOr2
 clear HBr2 HOr2
 go_wp2_with fail
 go_ret
 have h := HOr.out.weaken HB0.out.size
 simp only [List.append_assoc] at h
 rw [← HK.out] at h
 exact ⟨.slice a14 m14 c14, rfl, h, qB0 HB0.out HBr.out⟩
end Go.Proofs.YtnpnfajgphpabaaGreat
namespace Go.Proofs.YtnpnfajgphpabaaGreat
set_option linter.unusedVariables false
set_option linter.unusedSimpArgs false
set_option maxRecDepth 100000
set_option maxHeartbeats 16000000
open Go.RowKit Go.Shelf
def slV (x : Option Addr × Nat × Nat) : Value := .slice x.1 x.2.1 x.2.2
theorem kg_far {a b c : World} {r q : Option Nat} (h : a.grownBy b r) (g : b.grownBy c q) (hq : ∀ k, q = some k → a.heap.size ≤ k ∨ r = some k) : a.grownBy c r := by
 refine ⟨g.os.trans h.os, g.tape.trans h.tape, g.output.trans h.output, Nat.le_trans h.size g.size, fun i hi hne => (g.block i (Nat.lt_of_lt_of_le hi h.size) (fun e => ?_)).trans (h.block i hi hne)⟩
 rcases hq i e.symm with h1 | h1
 ·omega
 ·exact hne h1.symm
theorem qbb {a b c : World} {r : Option Nat} (h : a.grownBy b r) (g : Below b.heap.size b c) : a.grownBy c r :=
 ⟨g.os.trans h.os, g.tape.trans h.tape, g.output.trans h.output, Nat.le_trans h.size g.size, fun i hi hne => (g.block i (Nat.lt_of_lt_of_le hi h.size)).trans (h.block i hi hne)⟩
theorem kg_to {n : Nat} {a b : World} {B : Nat} (h : a.grownBy b (some B)) (hB : n ≤ B) (hn : n ≤ a.heap.size) : Below n a b := (Below.refl n a).grown h hn (fun k e => by cases e; exact hB)
theorem RowS.at {W : World} {a : Option Addr} {b off n c : Nat} {l : List St} {G : Fin l.length → SV} (h : RowS W (.slice a n c) l) (ha : l.length = 0 ∨ a = some ⟨b, off, none⟩) (hG : EAt W b off G) (x : Fin l.length) :
 SetR W [.slice (G x).1.1 (G x).1.2.1 (G x).1.2.2, .int .i64 (G x).2.1, .int .u32 (G x).2.2.1, .slice (G x).2.2.2.1 (G x).2.2.2.2.1 (G x).2.2.2.2.2] l[x] := by
 have hx := x.isLt
 obtain ⟨b', off', e, hb, hel⟩ := h.elem (by omega)
 have ha' : a = some ⟨b, off, none⟩ := by
  rcases ha with h0 | h0
  ·omega
  ·exact h0
 rw [ha'] at e
 injection e with e
 injection e with e1 e2 _
 subst e1; subst e2
 obtain ⟨x0, x3, hs, hc⟩ := hel x.val x.isLt
 obtain ⟨c0, c1, c2, c3⟩ := hc W (qL0)
 obtain ⟨g0, g1, g2, g3⟩ := hG x
 rw [c0] at g0; rw [c1] at g1; rw [c2] at g2; rw [c3] at g3
 injection g0 with g0; injection g1 with g1; injection g2 with g2; injection g3 with g3
 rw [← g0, ← g1, ← g2, ← g3]
 exact hs
theorem eAt_ne {W : World} {b off B m : Nat} {G : Fin m → SV} {z0 z1 z2 z3 : Option Addr × Nat × Nat} {T : TypeId} (hG : EAt W b off G) (hm : 0 < m) (hB : W.heap[B]? = some (.cells #[slV z0, slV z1, slV z2, slV z3] T)) : b ≠ B := by
 rintro rfl
 have h := (hG ⟨0, hm⟩).2.1
 simp only [World.cell?, hB, slV] at h
 rcases Nat.lt_or_ge (off + 0 * 4 + 1) 4 with h4 | h4
 ·have : off = 0 ∨ off = 1 ∨ off = 2 := by omega
  rcases this with rfl | rfl | rfl <;> simp at h
 ·rw [Array.getElem?_eq_none (by simpa using h4)] at h
  simp at h
theorem qgs {fn : Func} {t : Tmp} (h : fn.results = #[.cell t 60]) (tmps : Array Value) (W : World) {a : Nat} {x0 x1 x2 x3 : Value} (h0 : x0.oneCell' = true) (h1 : x1.oneCell' = true) (h2 : x2.oneCell' = true) (h3 : x3.oneCell' = true)
 (ht : tmps.getD t undef = .pointer (some ⟨a, 0, none⟩)) (y0 : W.cell? ⟨a, 0, none⟩ = some x0) (y1 : W.cell? ⟨a, 1, none⟩ = some x1) (y2 : W.cell? ⟨a, 2, none⟩ = some x2) (y3 : W.cell? ⟨a, 3, none⟩ = some x3) : (results fn tmps).run Tryz.prog W = .ok (.agg #[x0, x1, x2, x3]) W := by
 have ht' : tmps[t]?.getD undef = .pointer (some ⟨a, 0, none⟩) := by rw [← ht]; simp
 have hu : ∀ w, Sem.run Tryz.prog (underlying 60) w = .ok _ w := run_underlying Tryz.underlying60
 have hz : ∀ w, Sem.run Tryz.prog (underlying 31) w = .ok _ w := run_underlying Tryz.underlying31
 simp [results, h, ht', loadVar, asAddr, go_sem, hu, hz, y0, y1, y2, y3, isAgg]
theorem qh7 {rs : List Rc} {k : Nat} (h : k < rs.length) : cutsM (rs.take (k + 1)) = cutsM (rs.take k) ++ if rs[k].data.ty = 2 then [⟨rs[k].owner, 0, rs[k].data⟩] else [] := by
 unfold cutsM
 rw [List.take_succ_eq_append_getElem h, List.filter_append, List.map_append]
 congr 1
 by_cases e : rs[k].data.ty = 2
 ·rw [if_pos e]; simp [e]
 ·rw [if_neg e]; simp [e]
theorem qdu (rs : List Rc) : (cutsM rs).length ≤ rs.length := by unfold cutsM; rw [List.length_map]; exact List.length_filter_le _ _
theorem qgQ {rs : List Rc} (h : ∀ r ∈ rs, RcOK r) : ∀ r ∈ cutsM rs, RcOK r := fun r hr => by
 unfold cutsM at hr
 obtain ⟨d, hd, rfl⟩ := List.mem_map.1 hr
 have := h d (List.mem_filter.1 hd).1
 exact ⟨this.1, by simp, this.2.2⟩
theorem qem : ∀ (n : Nat) (l : List Rc), l.length ≤ n → (setsM l).length ≤ l.length
 | 0, l, h => by
  obtain rfl : l = [] := List.eq_nil_of_length_eq_zero (by omega)
  simp [qa3]
 | n + 1, [], h => by simp [qa3]
 | n + 1, y :: r, h => by
  rw [qaM, List.length_cons, List.length_cons]
  have h1 : (r.dropWhile (belR y)).length ≤ r.length := (List.dropWhile_sublist _).length_le
  have := qem n (r.dropWhile (belR y)) (by simp at h; omega)
  omega
theorem qif {W1 : World} {n Bx b off k c : Nat} {a : Option Addr} {ss : List St} (h0 : 0 < ss.length) (ha : a = some ⟨b, off, none⟩) (h : ∀ W' : World, (∀ g, n ≤ g → g < W1.heap.size → g ≠ Bx → W'.heap[g]? = W1.heap[g]?) → RowS W' (.slice a k c) ss) : n ≤ b ∧ b < W1.heap.size ∧ b ≠ Bx := by
 have key : ∀ W' : World, (∀ g, n ≤ g → g < W1.heap.size → g ≠ Bx → W'.heap[g]? = W1.heap[g]?) → ∃ v, W'.cell? ⟨b, off + 0 * 4, none⟩ = some v := fun W' hW' => by
  obtain ⟨b', off', e, hb, hel⟩ := (h W' hW').elem h0
  rw [ha] at e
  injection e with e
  injection e with e1 e2 _
  subst e1; subst e2
  obtain ⟨x0, x3, _, hc⟩ := hel 0 h0
  exact ⟨_, (hc W' (qL0)).1⟩
 obtain ⟨v0, hv0⟩ := key W1 (fun _ _ _ _ => rfl)
 have hlt : b < W1.heap.size := World.block_lt_of_cell? W1 _ hv0
 have hcl : ∀ v, (W1.putObj b (.deferred none)).cell? ⟨b, off + 0 * 4, none⟩ ≠ some v := fun v e => by
  have h1 : (W1.putObj b (.deferred none)).heap[b]? = some (.deferred none) := World.putObj_heap_same hlt
  simp only [World.cell?, h1] at e
  cases e
 refine ⟨?_, hlt, ?_⟩
 ·refine Nat.le_of_not_lt (fun hn => ?_)
  obtain ⟨v, hv⟩ := key (W1.putObj b (.deferred none)) (fun g q1 q2 q3 => World.putObj_heap_other (by omega))
  exact hcl v hv
 ·rintro rfl
  obtain ⟨v, hv⟩ := key (W1.putObj b (.deferred none)) (fun g q1 q2 q3 => World.putObj_heap_other (fun e => q3 e))
  exact hcl v hv
def NvPost (wz w : World) (za : Option Addr) (zn zc : Nat) (o : Nm) (rs : List Rc) (e : Ending) (w' : World) : Prop := ∃ sa sn sc va vn vc ca cn cc, e = .returned (.agg #[.slice sa sn sc, .slice za zn zc, .slice va vn vc, .slice ca cn cc]) ∧ (∀ W', Below wz.heap.size wz W' → FarKeep w.heap.size w' W' → ViewAt W' sa sn sc za zn zc va vn vc (.slice ca cn cc) o (cutsM rs) (setsM (canonM rs)) (qaB o rs (setsM (canonM rs)))) ∧ Below w.heap.size w w'
def NvB (n : Nat) (W : World) (l : List St) (e : Ending) (w' : World) : Prop := ∃ sa sn sc, e = .returned (.slice sa sn sc) ∧ (∀ W', FarKeep n w' W' → RowS W' (.slice sa sn sc) l) ∧ Below W.heap.size W w'
theorem nvB {n : Nat} {W w' : World} {l : List St} {e : Ending} (hn : n ≤ W.heap.size) (h : qcy W l e w') : NvB n W l e w' := by
 obtain ⟨v, rfl, h1, h2, h3⟩ := h
 obtain ⟨a, c, rfl⟩ := h1.shape
 exact ⟨a, _, c, rfl, fun W' hg => h3 W' (hg.mono hn), h2⟩
def NvA (W : World) (B : Nat) (l : List St) (e : Ending) (w' : World) : Prop := ∃ sa sn sc, e = .returned (.slice sa sn sc) ∧ (∀ W', FarKeep (B + 1) w' W' → RowS W' (.slice sa sn sc) l) ∧ Below W.heap.size W w' ∧ w'.heap[B]? = some (.cells #[.slice none 0 0, .slice none 0 0, .slice none 0 0, .slice none 0 0] 60)
theorem nvA {W w' : World} {B : Nat} {l : List St} {e : Ending} (hB : B < W.heap.size) (hX : W.heap[B]? = some (.cells #[.slice none 0 0, .slice none 0 0, .slice none 0 0, .slice none 0 0] 60)) (h : qcy W l e w') : NvA W B l e w' := by
 obtain ⟨v, rfl, h1, h2, h3⟩ := h
 obtain ⟨a, c, rfl⟩ := h1.shape
 exact ⟨a, _, c, rfl, fun W' hg => h3 W' (hg.mono hB), h2, (h2.block B hB).trans hX⟩
theorem qlk : ElemT 23 40 24 := ⟨Tryz.underlying40, _, _, rfl, rfl, rfl, rfl, rfl⟩
def NvW (W0 : World) (O : Value) (ss : List St) (Bx : Nat) (S : Value) (W : World) : Prop := W0.heap.size ≤ Bx ∧ W.heap[Bx]? = some (.cells #[S, O, .slice none 0 0, .slice none 0 0] 60) ∧ (∀ W', (∀ g, W0.heap.size ≤ g → g < W.heap.size → g ≠ Bx → W'.heap[g]? = W.heap[g]?) → RowS W' S ss) ∧ Below W0.heap.size W0 W
theorem box4V {W : World} {B : Nat} {v0 v1 v2 v3 z0 z1 z2 z3 : Value} (h : W.heap[B]? = some (.cells #[z0, z1, z2, z3] 60)) : ((((W.setCell ⟨B, 0, none⟩ v0).setCell ⟨B, 1, none⟩ v1).setCell ⟨B, 2, none⟩ v2).setCell ⟨B, 3, none⟩ v3).heap[B]? = some (.cells #[v0, v1, v2, v3] 60) :=
 kset (kset (kset (kset h 0 v0) 1 v1) 2 v2) 3 v3
theorem qfo (W : World) (B : Nat) (v0 v1 v2 v3 : Value) : W.grownBy ((((W.setCell ⟨B, 0, none⟩ v0).setCell ⟨B, 1, none⟩ v1).setCell ⟨B, 2, none⟩ v2).setCell ⟨B, 3, none⟩ v3) (some B) :=
 qat (qat (qat (qaf W B 0 v0) (qaf _ B 1 v1)) (qaf _ B 2 v2)) (qaf _ B 3 v3)
theorem qkX {W0 W : World} {B : Nat} (h : Below W0.heap.size W0 W) (hB : W0.heap.size ≤ B) (v0 v1 v2 v3 : Value) : Below W0.heap.size W0 ((((W.setCell ⟨B, 0, none⟩ v0).setCell ⟨B, 1, none⟩ v1).setCell ⟨B, 2, none⟩ v2).setCell ⟨B, 3, none⟩ v3) :=
 (((h.setCell (p := ⟨B, 0, none⟩) hB v0).setCell (p := ⟨B, 1, none⟩) hB v1).setCell (p := ⟨B, 2, none⟩) hB v2).setCell (p := ⟨B, 3, none⟩) hB v3
theorem qhG {α β : Type} (p : α → Bool) (f : α → β) (l : List α) (x : α) : ((l ++ [x]).filter p).map f = (l.filter p).map f ++ if p x = true then [f x] else [] := by
 rw [List.filter_append, List.map_append]
 congr 1
 cases h : p x <;> simp [h]
theorem KeepsOthers.grown_g {α : Type} {T : TypeId} {enc : α → Value} {W W' : World} {base : Nat} {v : Value} {xs : List α} (h : OwnG T enc W base v xs) (hg : W.grownBy W' v.ownBlock) : KeepsOthers W W' :=
 ⟨hg.size, fun i ob hi ho => (hg.block i (Array.getElem?_eq_some_iff.1 hi).1 (fun e => by
   rcases h.2 with ⟨rfl, _⟩ | ⟨g, cap, cur, rfl, _, hh, _⟩
   ·cases e
   ·simp only [Value.ownBlock] at e
    cases e
    rw [hi] at hh; cases hh; cases ho)).trans hi⟩
theorem qeH (ss : List St) (p : St → Bool) : ((List.finRange ss.length).filter (fun x => p ss[x])).map (fun x => ss[x]) = ss.filter p := by
 have h : (List.finRange ss.length).map (fun x => ss[x]) = ss := by
  apply List.ext_getElem
  ·simp
  ·intro i h1 h2
   simp
 have h2 := congrArg (List.filter p) h
 rw [List.filter_map] at h2
 exact h2
theorem nms_of {α : Type} {W : World} {v : Value} {F : List α} {f : α → Option Addr × Nat × Nat} {g : α → Nm} (h : SlAt W v (F.map (slV ∘ f))) (hn : ∀ x ∈ F, NmAt W (slV (f x)) (g x)) : NmsAt W v (F.map g) :=
 ⟨_, h, by simp, fun j hj => by simp only [List.getElem_map]; exact hn _ (List.getElem_mem _)⟩
theorem EAt.keptB {W W' : World} {b off m : Nat} {G : Fin m → SV} (h : EAt W b off G) (hk : KeepB b W W') : EAt W' b off G := fun x => by
 obtain ⟨g0, g1, g2, g3⟩ := h x
 exact ⟨hk.cell.trans g0, hk.cell.trans g1, hk.cell.trans g2, hk.cell.trans g3⟩
def NvI (W3 : World) (Bx : Nat) (S O R : Value) {m : Nat} (G : Fin m → SV) (test : Fin m → Bool) (pre : List (Fin m)) (W : World) : Prop :=
 W3.grownBy W (some Bx) ∧ ∃ (ca : Option Addr) (cn cc : Nat), W.heap[Bx]? = some (.cells #[S, O, R, .slice ca cn cc] 60) ∧ OwnG 23 slV W W3.heap.size (.slice ca cn cc) ((pre.filter test).map fun x => (G x).1)
theorem NvI.below {W3 : World} {Bx : Nat} {S O R : Value} {m : Nat} {G : Fin m → SV} {test : Fin m → Bool} {pre : List (Fin m)} {W W' : World} (h : NvI W3 Bx S O R G test pre W) (hb : Below W.heap.size W W') : NvI W3 Bx S O R G test pre W' := by
 obtain ⟨h1, ca, cn, cc, h2, h3⟩ := h
 exact ⟨qbb h1 hb, ca, cn, cc, (hb.block _ (qaa h2)).trans h2, h3.below hb⟩
theorem qkW {W3 : World} {Bx : Nat} {S O R : Value} {m : Nat} {G : Fin m → SV} {test : Fin m → Bool} (hB : Bx < W3.heap.size) : OwnFrom W3.heap.size (NvI W3 Bx S O R G test) := by
 rintro pre W W' row ⟨h1, ca, cn, cc, h2, h3⟩ hg hr
 exact ⟨kg_far h1 hg (fun k e => .inl (hr k e).1), ca, cn, cc, (hg.block Bx (qaa h2) (fun e => by have := (hr Bx e.symm).1; omega)).trans h2, h3.keptO hg (fun r e => (hr r e).2)⟩
section
attribute [local go_sem] Oper.semAt_some
theorem qgg {wz w : World} {za : Option Addr} {zn zc : Nat} {v1 : Option Addr} {m c : Nat} {o : Nm} {rs : List Rc} (hbz : Below wz.heap.size wz w) (hZ : ZonS wz za zn zc v1 m c o rs) :
 Calls Tryz.prog 19 #[.agg #[.slice za zn zc, .slice v1 m c]] w (NvPost wz w za zn zc o rs) := by
 obtain ⟨hzo, hzk, ⟨css, hA, hR⟩, hOK, hm20⟩ := id hZ
 have hml : css.length = m := by obtain ⟨_, _, e, _⟩ := id hA; injection e with _ e _; exact e.symm
 have hrl : rs.length = m := by rw [← hR.1]; exact hml
 obtain ⟨ss, hss⟩ : ∃ ss, setsM (canonM rs) = ss := ⟨_, rfl⟩
 have hsl : ss.length ≤ 1048576 := by
  have h1 := qem _ (canonM rs) (qN0); have h2 := qaD rs; rw [hss] at h1; omega
 have hsok : ∀ s ∈ ss, NmOK s.owner := fun s hs => (qcg hOK (by rw [hss]; exact hs)).1
 have HCS := qH0 (fun W (hb : Below w.heap.size w W) => (by
  have := qis (.slice v1 m c) css rs W (hA.below (qB0 hbz hb)) (hR.below (qB0 hbz hb)) hOK (by omega)
  rw [hss] at this
  exact this : Calls Tryz.prog 47 #[.slice v1 m c] W (qcy W ss)))
 have HZW := qH0 (fun W (hb : Below wz.heap.size wz W) => hzo.below hb)
 have HBZ := qH0 hbz
 have HA := qH0 hA; have HR := qH0 hR; have HML := qH0 hml; have HRL := qH0 hrl; have HOK := qH0 hOK; have HZK := qH0 hzk; have HSL := qH0 hsl; have HSOK := qH0 hsok; have HSS := qH0 hss
 unfold NvPost
 rw [hss]
 clear hZ hbz hzo hzk hA hR hOK hml hrl hsl hsok hss
 obtain ⟨W0, hW0⟩ : ∃ W0, (w.alloc (.cells #[.slice za zn zc, .slice v1 m c] 31)).alloc (.cells #[.slice none 0 0, .slice none 0 0, .slice none 0 0, .slice none 0 0] 60) = W0 := ⟨_, rfl⟩
 have hB0 : Below w.heap.size w W0 := by rw [← hW0]; exact ((Below.refl w.heap.size w).alloc (qN0) _).alloc (by simp) _
 have hz0 : W0.heap.size = w.heap.size + 2 := by rw [← hW0]; simp
 have x0 : W0.heap[w.heap.size]? = some (.cells #[.slice za zn zc, .slice v1 m c] 31) := by
  rw [← hW0]; exact (Below.heap_alloc _ _ _ (by simp)).trans (knew w _)
 have x1 : W0.heap[w.heap.size + 1]? = some (.cells #[.slice none 0 0, .slice none 0 0, .slice none 0 0, .slice none 0 0] 60) := by
  have h := knew (w.alloc (.cells #[.slice za zn zc, .slice v1 m c] 31)) (.cells #[.slice none 0 0, .slice none 0 0, .slice none 0 0, .slice none 0 0] 60)
  rw [World.size_alloc] at h
  rw [← hW0]; exact h
 have X0 := qH0 x0; have X1 := qH0 x1; have HB0 := qH0 hB0; have HZ0 := qH0 hz0
 have hS0 : W0.cell? ⟨w.heap.size, 0, none⟩ = some (.slice za zn zc) ∧ W0.cell? ⟨w.heap.size, 1, none⟩ = some (.slice v1 m c) ∧ Below W0.heap.size W0 W0 := ⟨kcell x0 0 _ rfl, kcell x0 1 _ rfl, qL0⟩
 have hKB : ∀ W, Below W0.heap.size W0 W → W.cell? ⟨w.heap.size, 0, none⟩ = some (.slice za zn zc) ∧ W.cell? ⟨w.heap.size, 1, none⟩ = some (.slice v1 m c) ∧ Below W0.heap.size W0 W := fun W hb => by
  have h := (hb.block _ (qaa X0.out)).trans X0.out
  exact ⟨kcell h 0 _ rfl, kcell h 1 _ rfl, hb⟩
 have hdr : ∀ W, Below W0.heap.size W0 W → Below W0.heap.size W0 W.drew := fun W h => h.trans ⟨rfl, rfl, rfl, qN0, fun _ _ => rfl⟩
 have KR := qH0 (fun W (h : W.cell? ⟨w.heap.size, 0, none⟩ = some (.slice za zn zc) ∧ W.cell? ⟨w.heap.size, 1, none⟩ = some (.slice v1 m c) ∧ Below W0.heap.size W0 W) => hKB _ (hdr W h.2.2))
 have KA := qH0 (fun W ob (h : W.cell? ⟨w.heap.size, 0, none⟩ = some (.slice za zn zc) ∧ W.cell? ⟨w.heap.size, 1, none⟩ = some (.slice v1 m c) ∧ Below W0.heap.size W0 W) => hKB _ (h.2.2.alloc h.2.2.size ob))
 have KS := qH0 (fun W W' (h : W.cell? ⟨w.heap.size, 0, none⟩ = some (.slice za zn zc) ∧ W.cell? ⟨w.heap.size, 1, none⟩ = some (.slice v1 m c) ∧ Below W0.heap.size W0 W) (hb : Below W.heap.size W W') => hKB W' (h.2.2.trans (hb.mono h.2.2.size)))
 have KP := qH0 (fun W u0 u1 u2 u3 (h : W.cell? ⟨w.heap.size, 0, none⟩ = some (.slice za zn zc) ∧ W.cell? ⟨w.heap.size, 1, none⟩ = some (.slice v1 m c) ∧ Below W0.heap.size W0 W) => hKB _ ((((h.2.2.setCell (p := ⟨W0.heap.size, 0, none⟩) (qN0) u0).setCell (p := ⟨W0.heap.size, 1, none⟩) (qN0) u1).setCell (p := ⟨W0.heap.size, 2, none⟩) (qN0) u2).setCell (p := ⟨W0.heap.size, 3, none⟩) (qN0) u3))
 have HAd : Hid (Calls Tryz.prog 47 #[.slice v1 m c] (W0.alloc (.cells #[.slice none 0 0, .slice none 0 0, .slice none 0 0, .slice none 0 0] 60)).drew (NvA (W0.alloc (.cells #[.slice none 0 0, .slice none 0 0, .slice none 0 0, .slice none 0 0] 60)).drew W0.heap.size ss)) := qH0 ((HCS.out _ (HB0.out.trans ((hdr _ ((Below.refl _ W0).alloc (qN0) _)).mono HB0.out.size))).mono (fun e w' h => nvA (by simp) (knewD W0 _) h))
 have HAd2 : Hid (Calls Tryz.prog 47 #[.slice v1 m c] (W0.drew.alloc (.cells #[.slice none 0 0, .slice none 0 0, .slice none 0 0, .slice none 0 0] 60)) (NvA (W0.drew.alloc (.cells #[.slice none 0 0, .slice none 0 0, .slice none 0 0, .slice none 0 0] 60)) W0.heap.size ss)) := qH0 ((HCS.out _ (HB0.out.trans (((hdr _ (Below.refl _ W0)).alloc (qN0) _).mono HB0.out.size))).mono (fun e w' h => nvA (Nat.lt_of_lt_of_eq (Nat.lt_succ_self _) (World.size_alloc W0.drew _).symm) (knew W0.drew _) h))
 have HBd := qH0 (fun W (h : W.cell? ⟨w.heap.size, 0, none⟩ = some (.slice za zn zc) ∧ W.cell? ⟨w.heap.size, 1, none⟩ = some (.slice v1 m c) ∧ Below W0.heap.size W0 W) => (HCS.out W (HB0.out.trans (h.2.2.mono HB0.out.size))).mono (fun e w' hh => nvB (n := W0.heap.size) h.2.2.size hh))
 clear x0 x1 hB0 hz0 hKB hdr
 refine (callsIn_wide (n := 8)).1 ?_
 refine callsIn_of_wp_marks Tryz.func19 rfl trivial ?_ rfl
 simp only [Tryz.ntmps19, List.size_toArray, List.length_cons, List.length_nil, Nat.reduceAdd, Nat.reduceSub, Array.replicate_succ, Array.replicate_zero, List.push_toArray, List.append_toArray, List.nil_append, List.cons_append]
 refine wpIn_wide.2 ?_
 go_upto_region 1 with (fail)
 clear hW0
 go_cut [3] from 7 to 13 (fun v wx => ∃ (Bx : Nat) (sa : Option Addr) (sn sc : Nat), v = .pointer (some ⟨Bx, 0, none⟩) ∧ Hid (NvW W0 (.slice za zn zc) ss Bx (.slice sa sn sc) wx))
 case first =>
  go_region_held3 (fun W => W.cell? ⟨w.heap.size, 0, none⟩ = some (.slice za zn zc) ∧ W.cell? ⟨w.heap.size, 1, none⟩ = some (.slice v1 m c) ∧ Below W0.heap.size W0 W)
   (first | with_reducible assumption | (with_reducible exact KR.out _ (by with_reducible assumption)) | (with_reducible exact KA.out _ _ (by with_reducible assumption)) | (with_reducible exact KR.out _ (KA.out _ _ (by with_reducible assumption))) | (with_reducible exact KA.out _ _ (KR.out _ (by with_reducible assumption))) | (with_reducible exact KP.out _ _ _ _ _ (by with_reducible assumption)))
   (first
     | ((with_reducible refine (HAd.out).mono ?_); rintro e w7 ⟨sa, sn, sc, rfl, hs7, hb7, hx7⟩; have hS2 := KS.out _ _ (by with_reducible assumption) hb7; have fz0 := qag hx7 0; have fz1 := qag hx7 1; have fz2 := qag hx7 2; have fz3 := qag hx7 3; have cl0 := kcell hx7 0 _ rfl; have cl1 := kcell hx7 1 _ rfl; have cl2 := kcell hx7 2 _ rfl; have cl3 := kcell hx7 3 _ rfl; have HSA := qH0 hs7; have HXA := qH0 hx7; clear hs7 hx7)
     | ((with_reducible refine (HAd2.out).mono ?_); rintro e w7 ⟨sa, sn, sc, rfl, hs7, hb7, hx7⟩; have hS2 := KS.out _ _ (by with_reducible assumption) hb7; have fz0 := qag hx7 0; have fz1 := qag hx7 1; have fz2 := qag hx7 2; have fz3 := qag hx7 3; have cl0 := kcell hx7 0 _ rfl; have cl1 := kcell hx7 1 _ rfl; have cl2 := kcell hx7 2 _ rfl; have cl3 := kcell hx7 3 _ rfl; have HSA := qH0 hs7; have HXA := qH0 hx7; clear hs7 hx7)
     | ((with_reducible refine (HBd.out _ (by with_reducible assumption)).mono ?_); rintro e w7 ⟨sa, sn, sc, rfl, hs7, hb7⟩; have hS2 := KS.out _ _ (by with_reducible assumption) hb7; have HSB := qH0 hs7; clear hs7))
  all_goals
   obtain ⟨h71, h72, h73⟩ := hS2
   first
   | (have hq := HSB
      clear hq
      go_wp2_with fail
      go_meet
      refine ⟨w7.heap.size, sa, sn, sc, rfl, qH0 ⟨h73.size, knew w7 _, fun W' hg => HSB.out W' (fun g q1 q2 => (hg g q1 (by rw [World.size_alloc]; omega) (by omega)).trans (Below.heap_alloc _ _ _ q2)), h73.alloc h73.size _⟩⟩)
   | (have hq := HSA
      clear hq
      go_wp2_with fail
      go_meet
      refine ⟨W0.heap.size, sa, sn, sc, rfl, qH0 ⟨qN0, box4V HXA.out, fun W' hg => HSA.out W' (fun g q1 q2 => (hg g (by omega) (Nat.lt_of_lt_of_le q2 (qfo w7 W0.heap.size _ _ _ _).size) (by omega)).trans ((qfo w7 W0.heap.size _ _ _ _).block g q2 (fun e => by injection e with e; omega))), qkX h73 (qN0) _ _ _ _⟩⟩)
 case rest =>
 rename World => W1
 obtain ⟨Bx, sa, sn, sc, rfl, HNV⟩ := hcut
 clear hS0 KR KA KS KP HAd HAd2 HBd HCS
 obtain ⟨hbx, hx1, hst1, hb01⟩ := HNV.out
 have x01 := (hb01.block _ (qaa X0.out)).trans X0.out
 have y1 := kcell x01 1 _ rfl
 have hz0' := HZ0.out
 have hwle : w.heap.size + 2 ≤ Bx := by have := HZ0.out; omega
 have hb1 : Below w.heap.size w W1 := qB0 HB0.out hb01
 have hsz1 := hb01.size
 have HFK := qH0 (fun (W' : World) (hg : ∀ g, W0.heap.size ≤ g → g < W1.heap.size → g ≠ Bx → W'.heap[g]? = W1.heap[g]?) => hst1 W' hg)
 have hst2 : ∀ W', W1.grownBy W' (some Bx) → RowS W' (.slice sa sn sc) ss := fun W' hg => hst1 W' (fun g q1 q2 q3 => hg.block g q2 (fun e => q3 (by injection e)))
 have HWR := qH0 (fun (W' : World) (hg : W1.grownBy W' (some Bx)) => (show Below wz.heap.size wz W' from HBZ.out.trans ((hb1.trans (kg_to hg (by omega) hb1.size)).mono HBZ.out.size)))
 have HWQ := qH0 (fun (W' : World) (hg : W1.grownBy W' (some Bx)) => (show Below w.heap.size w W' from hb1.trans (kg_to hg (by omega) hb1.size)))
 have HX1 := qH0 hx1; have HST := qH0 hst2; have HWL := qH0 hwle; have HBX := qH0 (qaa hx1)
 have HRB := qH0 (show W1.heap[w.heap.size + 1]? = some (.cells #[.slice none 0 0, .slice none 0 0, .slice none 0 0, .slice none 0 0] 60) from (hb01.block _ (qaa X1.out)).trans X1.out)
 have HZW0 := qH0 hz0'
 clear HNV hbx hx1 hst1 hst2 hsz1 hb01 x01 hwle hb1 X0 X1 HB0 HZ0
 go_wp2
 clear y1
 go_loopw [17] (fun vi wr => ∃ (k : Nat) (ga : Option Addr) (gn gc : Nat) (csw : List (List Value)), vi = .int .i64 k ∧ k ≤ m ∧ Hid (W1.grownBy wr (some Bx)) ∧ Hid (wr.heap[Bx]? = some (.cells #[.slice sa sn sc, .slice za zn zc, .slice ga gn gc, .slice none 0 0] 60)) ∧ Hid (OwnC 7 47 wr W1.heap.size (.slice ga gn gc) csw) ∧ Hid (Rcs wz csw (cutsM (rs.take k)))) (fun vi _ => m - (intOf vi).toNat)
 case atStart => exact ⟨0, none, 0, 0, [], rfl, Nat.zero_le _, qH0 (qcG _ _), HX1, qH0 (OwnK.nil _ _), qH0 ⟨rfl, fun i a => absurd a (by simp)⟩⟩
 case round =>
  obtain ⟨k, ga, gn, gc, csw, rfl, hk, HG, HX, HO, HRw⟩ := hrel
  by_cases hlt : k < m
  ·have hltz : (k : Int) < (m : Int) := by omega
   have hk1 : k < css.length := by have := HML.out; omega
   have hk2 : k < rs.length := by have := HRL.out; omega
   have hwr := HWR.out _ HG.out
   obtain ⟨b, off, rfl, hb, hel⟩ := HA.out.elem HR.out.ck (by omega)
   have h0 := HR.out.2 k hk1 hk2
   have htk := qh7 hk2
   obtain ⟨d, hd⟩ : ∃ d, rs[k]'hk2 = d := ⟨_, rfl⟩
   rw [hd] at h0 htk
   obtain ⟨⟨p0, q0, k0⟩, ⟨p3, q3, k3⟩, ⟨p4, q4, k4⟩, ⟨p5, q5, k5⟩, ⟨p6, q6, k6⟩, e0⟩ := h0.shape
   simp only at e0
   obtain ⟨c0', c1, c2, c3, c4, c5, c6⟩ := hel k hk1 _ _ _ _ _ _ _ e0 wr hwr
   rw [e0] at h0
   have hnew : RcAt wz [.slice p0 q0 k0, .int .u32 0, .int .i64 d.data.ty, .slice p3 q3 k3, .slice p4 q4 k4, .slice p5 q5 k5, .slice p6 q6 k6] ⟨d.owner, 0, d.data⟩ := by
    obtain ⟨vo, vn, vu, vt, vr, e5, g1, g2⟩ := h0
    simp only [List.cons.injEq, and_true] at e5
    obtain ⟨r0, -, -, r3, r4, r5, r6⟩ := e5
    exact ⟨vo, vn, vu, vt, vr, by rw [r0, r3, r4, r5, r6]; rfl, g1, g2⟩
   have hbA := (Below.refl wr.heap.size wr).alloc (qN0) (.cells #[.slice p0 q0 k0, .int .u32 (d.ttl : Int), .int .i64 d.data.ty, .slice p3 q3 k3, .slice p4 q4 k4, .slice p5 q5 k5, .slice p6 q6 k6] 47)
   have HG1 := qH0 (qbb HG.out hbA)
   have HO1 := qH0 (OwnK.below HO.out hbA)
   have hX1' := (hbA.block _ (qaa HX.out)).trans HX.out
   have HX1' := qH0 hX1'
   have hb5 := knew wr (.cells #[.slice p0 q0 k0, .int .u32 (d.ttl : Int), .int .i64 d.data.ty, .slice p3 q3 k3, .slice p4 q4 k4, .slice p5 q5 k5, .slice p6 q6 k6] 47)
   have HTL := qH0 (show csw.length ≤ 1048576 by have h1 := HRw.out.1; have h2 := qdu (rs.take k); rw [List.length_take] at h2; omega)
   have HNW := qH0 hnew; have HTK := qH0 htk
   have hs1 : W1.heap.size ≤ (wr.alloc (.cells #[.slice p0 q0 k0, .int .u32 (d.ttl : Int), .int .i64 d.data.ty, .slice p3 q3 k3, .slice p4 q4 k4, .slice p5 q5 k5, .slice p6 q6 k6] 47)).heap.size := HG1.out.size
   clear h0 htk hd e0 hk1 hk2 hel hwr hnew hbA HG HX HO
   generalize d.data.ty = ty at *
   generalize (d.ttl : Int) = tr at *
   by_cases hty : ty = 2
   ·subst hty
    have HRw2 : Hid (Rcs wz (csw ++ [[.slice p0 q0 k0, .int .u32 0, .int .i64 2, .slice p3 q3 k3, .slice p4 q4 k4, .slice p5 q5 k5, .slice p6 q6 k6]]) (cutsM (rs.take (k + 1)))) := qH0 (by rw [HTK.out]; exact HRw.out.snoc HNW.out)
    have v2 := kcell hX1' 2 _ rfl
    have f2 := qag hX1' 2
    have u0 := kcell hb5 0 _ rfl; have u2 := kcell hb5 2 _ rfl; have u3 := kcell hb5 3 _ rfl; have u4 := kcell hb5 4 _ rfl; have u5 := kcell hb5 5 _ rfl; have u6 := kcell hb5 6 _ rfl
    clear hX1' hb5 HTK HRw HNW
    go_wp2_with (at_builtin; go_loud (refine qdb _ rfl (.tmp 27) (.tmp 33) qcT (by decide) rfl W1.heap.size (.slice ga gn gc) csw rfl HO1.out [.slice p0 q0 k0, .int .u32 0, .int .i64 2, .slice p3 q3 k3, .slice p4 q4 k4, .slice p5 q5 k5, .slice p6 q6 k6] rfl (by intro u hu; simp only [List.mem_cons, List.not_mem_nil, or_false] at hu; rcases hu with rfl | rfl | rfl | rfl | rfl | rfl | rfl <;> rfl) 1 (by simp [Act.eval]) hs1 (by have := HTL.out; unfold maxLen; omega) (by have := HTL.out; omega) ?_); intro v3 w3 hown3 hg3; obtain ⟨a9, c9, e9⟩ := OwnK.shape hown3; generalize hm9 : List.length (csw ++ _) = m9 at e9; subst e9; have hx3 := (hg3.block Bx (qaa HX1'.out) (fun e => OwnK.ne_block HO1.out HX1'.out (by decide) e)).trans HX1'.out; have w2 := kcell hx3 2 _ rfl; have g2 := qag hx3 2; have HX3 := qH0 hx3; have HO3 := qH0 hown3; have HG3 := qH0 hg3; clear hx3 hown3 hg3 hm9)
    have HG4 := qH0 (qat (kg_far HG1.out HG3.out (fun k e => .inl (OwnK.base_le HO1.out k e))) (qaf w3 Bx 2 (.slice a9 m9 c9)))
    have HX4 := qH0 (kset HX3.out 2 (.slice a9 m9 c9))
    have HO4 := qH0 (OwnK.keptB HO3.out HX3.out (by decide) 2 (.slice a9 m9 c9))
    go_roundw
    case measure => simp [intOf]; omega
    case rel => exact ⟨k + 1, a9, m9, c9, _, by go_num, by omega, HG4, HX4, HO4, HRw2⟩
   ·have htb : (ty == 2) = false := by simpa using hty
    have HRw2 : Hid (Rcs wz csw (cutsM (rs.take (k + 1)))) := qH0 (by rw [HTK.out, if_neg hty, List.append_nil]; exact HRw.out)
    have u2 := kcell hb5 2 _ rfl
    clear hX1' hb5 HTK HRw HNW
    go_wp2
    go_roundw
    case measure => simp [intOf]; omega
    case rel => exact ⟨k + 1, ga, gn, gc, csw, by go_num, by omega, HG1, HX1', HO1, HRw2⟩
  ·obtain rfl : k = m := by omega
   have hR2 := HRw.out
   rw [List.take_of_length_le (by have := HRL.out; omega)] at hR2
   have HR2 := qH0 hR2
   have v0 := kcell HX.out 0 _ rfl
   clear HRw hR2 hlt hk
   go_wp2_with fail
   refine (qc2 _ _ rfl).mono ?_
   rintro e w' ⟨rfl, rfl⟩
   clear v0
   obtain ⟨W3, hW3⟩ : ∃ W3, wr.alloc (.cells #[.slice sa sn sc] 58) = W3 := ⟨_, rfl⟩
   have hB3 : Below wr.heap.size wr W3 := by rw [← hW3]; exact (Below.refl wr.heap.size wr).alloc (qN0) _
   have hz3 : W3.heap.size = wr.heap.size + 1 := by rw [← hW3, World.size_alloc]
   have HGA := qH0 (qbb HG.out hB3)
   have hX3 := (hB3.block _ (qaa HX.out)).trans HX.out
   have hxe : W3.cell? ⟨wr.heap.size, 0, none⟩ = some (.slice sa sn sc) := by rw [← hW3]; exact kcell (knew wr _) 0 _ rfl
   have hO3 := OwnK.below HO.out hB3
   obtain ⟨b, off, G, ha, hbl, hn, hG3, -⟩ := (HST.out W3 HGA.out).vals
   have hne : 0 < ss.length → b ≠ Bx := fun h0 => eAt_ne (z0 := (sa, sn, sc)) (z1 := (za, zn, zc)) (z2 := (ga, gn, gc)) (z3 := (none, 0, 0)) (hG3 W3 (qL0)) h0 hX3
   subst hn
   obtain ⟨b, off, ha, hbl, hG3, hne⟩ : ∃ b2 off2, (ss.length = 0 ∨ sa = some ⟨b2, off2, none⟩) ∧ b2 < W3.heap.size ∧ (∀ W', Below W3.heap.size W3 W' → EAt W' b2 off2 G) ∧ (0 < ss.length → b2 ≠ Bx) := by
    by_cases h0 : 0 < ss.length
    ·exact ⟨b, off, ha, World.block_lt_of_cell? W3 _ ((hG3 W3 (qL0)) ⟨0, h0⟩).1, hG3, hne⟩
    ·exact ⟨0, 0, .inl (by omega), by omega, fun W' _ x => absurd x.isLt (by omega), fun h => absurd h h0⟩
   have HZ3 := qH0 hz3; have HX3 := qH0 hX3; have HXE := qH0 hxe; have HO3 := qH0 hO3; have HAA := qH0 ha; have HBL := qH0 hbl; have HG3 := qH0 hG3; have HNE := qH0 hne
   clear hB3 hz3 hX3 hxe hO3 ha hbl hG3 hne HG HX HO
   go_wp2_with fail
   refine (wpIn_wide (n := 8)).1 ?_
   clear hW3
   obtain ⟨test, htest⟩ : ∃ t : Fin ss.length → Bool, t = (fun x : Fin ss.length => decide (ss[x].ty = 39) && decide (whereM o rs ss[x].owner = 1)) := ⟨_, rfl⟩
   have HTEST := qH0 htest
   clear htest
   refine wpIn_rangeFunc_ownH rfl (by omega) (gf := 49) (lb := #[.pointer (some ⟨wr.heap.size, 0, none⟩)]) rfl trivial (enters_of Tryz.func49 (by kernel_rfl) rfl)
    (qcW _ (by omega) wr.heap.size sa b off ss.length sc G HAA.out HSL.out W3 (by rw [HZ3.out]; omega) HXE.out HG3.out) qdP
    (qci HBL.out) (qL0) (fun _ => rfl)
    (NvI W3 Bx (.slice sa ss.length sc) (.slice za zn zc) (.slice ga gn gc) G test)
    (fun _ _ _ => False)
    (qkW (qaa HX3.out)) (fun _ => ownFrom_pure _ _)
    ⟨qcG _ _, none, 0, 0, HX3.out, OwnG.nil _ _⟩
    (fun x a' W => ∃ B6, a' = { tmps := #[.agg #[.slice za zn zc, .slice v1 k c], .pointer (some ⟨w.heap.size, 0, none⟩), .pointer (some ⟨w.heap.size + 1, 0, none⟩), .pointer (some ⟨Bx, 0, none⟩), undef, u5, .pointer (some ⟨B6, 0, none⟩), u7, u8, u9, u10, u11, u12, u13, .pointer (some ⟨w.heap.size, 1, none⟩), .slice v1 k c, .int .i64 (k : Int), .int .i64 (k : Int), .bool false, u19, u20, u21, u22, u23, u24, u25, u26, u27, u28, u29, u30, u31, u32, u33, u34, u35, u36, u37, .pointer (some ⟨Bx, 0, none⟩), .slice sa ss.length sc, .func (.func 49) #[] #[.pointer (some ⟨wr.heap.size, 0, none⟩)], .agg #[.slice (G x).1.1 (G x).1.2.1 (G x).1.2.2, .int .i64 (G x).2.1, .int .u32 (G x).2.2.1, .slice (G x).2.2.2.1 (G x).2.2.2.2.1 (G x).2.2.2.2.2], undef, undef, undef, undef, undef, undef, undef, undef, undef, undef, undef, undef, undef, undef, undef, undef, undef, undef, undef], defers := [] } ∧ W3.heap.size ≤ B6 ∧ W.heap[B6]? = some (.cells #[.slice (G x).1.1 (G x).1.2.1 (G x).1.2.2, .int .i64 (G x).2.1, .int .u32 (G x).2.2.1, .slice (G x).2.2.2.1 (G x).2.2.2.2.1 (G x).2.2.2.2.2] 67)) (fun x a' u W W' row ⟨B6, ha, hb, hx⟩ hg hr => ⟨B6, ha, hb, (hg.block B6 (qaa hx) (fun e => by obtain ⟨_, o, ho, hcell⟩ := hr B6 e.symm; rw [hx] at ho; cases ho; cases hcell)).trans hx⟩) ?assign ?body ?done ?stop
   case assign =>
    intro l pre x W K hi hK
    unfold eV
    gi_wp2
    have hbA : ∀ ob, Below W.heap.size W (W.alloc ob) := fun ob => (Below.refl _ W).alloc (qN0) ob
    exact hK _ _ ((KeepsOthers.of_below (hbA _)).from _) (KeepB.alloc W _ (Nat.lt_of_lt_of_le HBL.out hi.1.size)) (hi.below (hbA _)) ⟨W.heap.size, rfl, hi.1.size, knew W _⟩
   case body =>
    rintro l pre x a' W hl2 hlp ⟨hg, ca, cn, cc, hx, ho⟩ ⟨B6, rfl, hB6, hx6⟩ hlt
    have hG1 := qat HGA.out hg
    have hww := HWR.out W hG1
    have hxl := x.isLt
    have hbne := HNE.out (by omega)
    have hEA : EAt W b off G := (HG3.out W3 (qL0)).keptB (hg.block b HBL.out (fun e => hbne (by injection e)))
    obtain ⟨hown, hty, -⟩ := ((HST.out W hG1).at HAA.out hEA x).own
    have hz : ZonS W za zn zc ga gn gc o (cutsM rs) := by
     refine ⟨HZW.out W hww, HZK.out, ⟨csw, SlK.of_own (OwnK.kept HO3.out hg (.inr (fun e => OwnK.ne_block HO3.out HX3.out (by decide) e.symm))) HR2.out.ck, HR2.out.below hww⟩, qgQ HOK.out, ?_⟩
     obtain ⟨_, _, e⟩ := OwnK.shape HO3.out
     injection e with _ e _
     have h1 := HR2.out.1; have h2 := qdu rs; have h3 := HRL.out
     omega
    have hcn := qeZ hz hown (HSOK.out _ (List.getElem_mem _))
    rw [qez] at hcn
    obtain ⟨wv, hwv⟩ : ∃ y, whereM o rs ss[x].owner = y := ⟨_, rfl⟩
    have HTS := qH0 (show test x = (decide ((G x).2.1 = 39) && decide (wv = 1)) by rw [HTEST.out]; simp only [hwv, hty])
    rw [hwv] at hcn
    have HNL := qH0 (show cn ≤ 1048576 ∧ cn = ((pre.filter test).map fun x => (G x).1).length by
     obtain ⟨_, _, e⟩ := ho.shape
     injection e with _ e _
     have h1 := List.length_filter_le test pre
     rw [List.length_map] at e
     have h2 := HSL.out
     exact ⟨by omega, by rw [List.length_map]; exact e⟩)
    have HFS := qH0 (qhG test (fun x => (G x).1) pre x)
    have HII := qH0 (show NvI W3 Bx (.slice sa ss.length sc) (.slice za zn zc) (.slice ga gn gc) G test pre W from ⟨hg, ca, cn, cc, hx, ho⟩)
    have HBW := qH0 (Nat.lt_of_lt_of_le HBL.out hg.size)
    have y0 := kcell hx6 0 _ rfl; have y1 := kcell hx6 1 _ rfl
    have z1 := kcell hx 1 _ rfl; have z2 := kcell hx 2 _ rfl
    have HX6 := qH0 hx6; have HXX := qH0 hx; have HOO := qH0 ho; have HGG := qH0 hg; have HBN := qH0 hbne
    generalize hxs : ((pre.filter test).map fun x => (G x).1) = xs at *
    have HXS := qH0 hxs
    clear hg hx ho hx6 hB6 hG1 hbne hEA hown hty hz hwv hlp hlt hww hxl hxs
    have e0 : (G x).1 = ((G x).1.1, (G x).1.2.1, (G x).1.2.2) := rfl
    rw [e0] at HFS
    generalize (G x).1.1 = g0 at *
    generalize (G x).1.2.1 = g1 at *
    generalize (G x).1.2.2 = g2 at *
    generalize (G x).2.1 = tx at *
    clear e0
    by_cases h39 : tx = 39
    ·subst h39
     by_cases hw1 : wv = 1
     ·subst hw1
      have HT : Hid (test x = true) := qH0 (by rw [HTS.out]; rfl)
      have hz0 := HGG.out.size
      gi_wp2_with (first | (refine ⟨trivial, ?_⟩; gi_at_call 48; refine (CallsIn.inRound l (callsIn_wide.2 hcn)).mono ?_; rintro e w9 ⟨rfl, hb9⟩; have hx9 := (hb9.block _ (qaa HXX.out)).trans HXX.out; have h69 := (hb9.block _ (qaa HX6.out)).trans HX6.out; have z3 := kcell hx9 3 _ rfl; have q3 := qag hx9 3; have s0 := kcell h69 0 _ rfl; have HX9 := qH0 hx9; have HO9 := qH0 (HOO.out.below hb9); have HB9 := qH0 hb9; have hz9 : W3.heap.size ≤ w9.heap.size := Nat.le_trans hz0 hb9.size; clear hx9 h69 hb9) | (gi_at_builtin; refine qfg w9 rfl (.tmp 54) (.tmp 57) qlk rfl (fun _ => rfl) W3.heap.size (.slice ca cn cc) xs rfl HO9.out [.slice g0 g1 g2] [(g0, g1, g2)] rfl 1 1 rfl rfl hz9 (by have := HNL.out; unfold maxLen; simp; omega) (by have := HNL.out; simp; omega) ?_; intro v' w1' hown' hg'; obtain ⟨a', n', c', rfl⟩ : ∃ a n c, v' = .slice a n c := (by obtain ⟨a, c, e⟩ := hown'.shape; exact ⟨_, _, _, e⟩); have hx10 := (hg'.block Bx (qaa HX9.out) (fun e => OwnG.ne_block HO9.out HX9.out (by decide) e)).trans HX9.out; have z10 := kcell hx10 3 _ rfl; have q10 := qag hx10 3; have HX10 := qH0 hx10; have HO10 := qH0 hown'; have HG10 := qH0 hg'; clear hx10 hown' hg'))
      have hg9 : W3.grownBy w9 (some Bx) := qbb HGG.out HB9.out
      have hg10 := qat (kg_far hg9 HG10.out (fun k e => .inl (HO9.out.base_le k e))) (qaf w1' Bx 3 (.slice a' n' c'))
      refine ⟨(((KeepsOthers.of_below HB9.out).trans (KeepsOthers.grown_g HO9.out HG10.out)).trans (KeepsOthers.setCell _ _ _)).from _, ?_, hg10, a', n', c', kset HX10.out 3 _, ?_⟩
      ·exact ((qaf w1' Bx 3 (.slice a' n' c')).block b (Nat.lt_of_lt_of_le HBL.out (Nat.le_trans hz9 HG10.out.size)) (fun e => HBN.out (by injection e))).trans ((HG10.out.block b (Nat.lt_of_lt_of_le HBL.out hz9) (fun e => by have := HO9.out.base_le b e.symm; have := HBL.out; omega)).trans (HB9.out.block b HBW.out))
      ·rw [HFS.out, if_pos HT.out]
       exact OwnG.keptB HO10.out HX10.out (by decide) 3 _
     ·have hwb : (wv == 1) = false := by simpa using hw1
      have HT : Hid (test x = false) := qH0 (by rw [HTS.out]; simp [hw1])
      gi_wp2_with (refine ⟨trivial, ?_⟩; gi_at_call 48; refine (CallsIn.inRound l (callsIn_wide.2 hcn)).mono ?_; rintro e w9 ⟨rfl, hb9⟩)
      refine ⟨(KeepsOthers.of_below hb9).from _, hb9.block b HBW.out, ?_⟩
      have h := HII.out.below hb9
      obtain ⟨i1, i2, i3, i4, i5, i6⟩ := h
      exact ⟨i1, i2, i3, i4, i5, by rw [HFS.out, HT.out]; rw [HXS.out] at i6; simpa using i6⟩
    ·have htb : (tx == 39) = false := by simpa using h39
     have HT : Hid (test x = false) := qH0 (by rw [HTS.out]; simp [h39])
     clear hcn
     gi_wp2
     refine ⟨trivial, ?_⟩
     gi_wp2
     refine ⟨(KeepsOthers.refl _).from _, KeepB.refl _ _, ?_⟩
     obtain ⟨i1, i2, i3, i4, i5, i6⟩ := HII.out
     exact ⟨i1, i2, i3, i4, i5, by rw [HFS.out, HT.out]; rw [HXS.out] at i6; simpa using i6⟩
   case done =>
    rintro D xs2 W hD rfl ⟨hg, ca, cn, cc, hx, ho⟩ hK
    have hG1 := qat HGA.out hg
    have hww := HWQ.out W hG1
    have hwl := HWL.out
    have hz3 := HZ3.out
    have hs13 : W1.heap.size ≤ W3.heap.size := HGA.out.size
    have hrb1 : W1.heap[w.heap.size + 1]? = some (.cells #[.slice none 0 0, .slice none 0 0, .slice none 0 0, .slice none 0 0] 60) := HRB.out
    have hrb3 := (HGA.out.block _ (qaa hrb1) (fun e => by injection e; omega)).trans hrb1
    have hrb := (hg.block _ (qaa hrb3) (fun e => by injection e; omega)).trans hrb3
    have hw1 : w.heap.size + 1 < W1.heap.size := qaa hrb1
    have hg4 := qfo W (w.heap.size + 1) (.slice sa ss.length sc) (.slice za zn zc) (.slice ga gn gc) (.slice ca cn cc)
    have hDl : D < W.heap.size := qaa hK
    obtain ⟨Wf, hWf⟩ : ∃ Wf, (((((W.setCell ⟨w.heap.size + 1, 0, none⟩ (.slice sa ss.length sc)).setCell ⟨w.heap.size + 1, 1, none⟩ (.slice za zn zc)).setCell ⟨w.heap.size + 1, 2, none⟩ (.slice ga gn gc)).setCell ⟨w.heap.size + 1, 3, none⟩ (.slice ca cn cc)).putObj D (.deferred none)) = Wf := ⟨_, rfl⟩
    have hKs : ((((W.setCell ⟨w.heap.size + 1, 0, none⟩ (.slice sa ss.length sc)).setCell ⟨w.heap.size + 1, 1, none⟩ (.slice za zn zc)).setCell ⟨w.heap.size + 1, 2, none⟩ (.slice ga gn gc)).setCell ⟨w.heap.size + 1, 3, none⟩ (.slice ca cn cc)).heap[D]? = some (.deferred (some [])) := (hg4.block D hDl (fun e => by injection e; omega)).trans hK
    have hfb : Wf.heap[w.heap.size + 1]? = some (.cells #[.slice sa ss.length sc, .slice za zn zc, .slice ga gn gc, .slice ca cn cc] 60) := by
     rw [← hWf]; exact (World.putObj_heap_other (by omega)).trans (box4V hrb)
    have hfo : ∀ g, g < W.heap.size → g ≠ w.heap.size + 1 → g ≠ D → Wf.heap[g]? = W.heap[g]? := fun g q1 q2 q3 => by
     rw [← hWf]; exact (World.putObj_heap_other (fun e => q3 (by omega))).trans (hg4.block g q1 (fun e => by injection e; omega))
    have hfw : Below w.heap.size w Wf := by
     rw [← hWf]
     refine qal ?_ (by omega) (qN0)
     exact (((hww.setCell (p := ⟨w.heap.size + 1, 0, none⟩) (by simp) _).setCell (p := ⟨w.heap.size + 1, 1, none⟩) (by simp) _).setCell (p := ⟨w.heap.size + 1, 2, none⟩) (by simp) _).setCell (p := ⟨w.heap.size + 1, 3, none⟩) (by simp) _
    have hagr : ∀ g, g < W1.heap.size → g ≠ Bx → g ≠ w.heap.size + 1 → Wf.heap[g]? = W1.heap[g]? := fun g q2 q3 q4 => (hfo g (Nat.lt_of_lt_of_le q2 hG1.size) q4 (by omega)).trans (hG1.block g q2 (fun e => q3 (by injection e)))
    have hgp : (((((W.setCell ⟨w.heap.size + 1, 0, none⟩ (.slice sa ss.length sc)).setCell ⟨w.heap.size + 1, 1, none⟩ (.slice za zn zc)).setCell ⟨w.heap.size + 1, 2, none⟩ (.slice ga gn gc)).setCell ⟨w.heap.size + 1, 3, none⟩ (.slice ca cn cc))).grownBy Wf (some D) := by rw [← hWf]; exact grownBy_putObj' _ D _
    have hrd : ∀ r, some D = some r → ∃ ob : Obj, ((((W.setCell ⟨w.heap.size + 1, 0, none⟩ (.slice sa ss.length sc)).setCell ⟨w.heap.size + 1, 1, none⟩ (.slice za zn zc)).setCell ⟨w.heap.size + 1, 2, none⟩ (.slice ga gn gc)).setCell ⟨w.heap.size + 1, 3, none⟩ (.slice ca cn cc)).heap[r]? = some ob ∧ ob.isCells = false := fun r e => by cases e; exact ⟨_, hKs, rfl⟩
    have hfs : W.heap.size ≤ Wf.heap.size := Nat.le_trans hg4.size hgp.size
    have hh2 : OwnC 7 47 Wf W1.heap.size (.slice ga gn gc) csw := by
     have h1 : OwnC 7 47 W W1.heap.size (.slice ga gn gc) csw := OwnK.kept HO3.out hg (.inr (fun e => OwnK.ne_block HO3.out HX3.out (by decide) e.symm))
     exact OwnC.keptO (OwnK.kept h1 hg4 (.inr (fun e => OwnK.ne_block h1 hrb (by decide) e.symm))) hgp hrd
    have hc2 := (OwnG.kept ho hg4 (.inr (fun e => OwnG.ne_block ho hrb (by decide) e.symm))).keptO hgp hrd
    have hwW1 : w.heap.size ≤ W1.heap.size := by omega
    have HV : Hid (∀ W', Below wz.heap.size wz W' → FarKeep w.heap.size Wf W' → ViewAt W' sa ss.length sc za zn zc ga gn gc (.slice ca cn cc) o (cutsM rs) ss (qaB o rs ss)) := qH0 (fun W' hbw' hfk => by
     have hrow : RowS W' (.slice sa ss.length sc) ss := HFK.out W' (fun g q1 q2 q3 => (hfk g (by have := HZW0.out; omega) (Nat.lt_of_lt_of_le (Nat.lt_of_lt_of_le q2 hG1.size) hfs)).trans (hagr g q2 q3 (by have := HZW0.out; omega)))
     have hcz : ZonS W' za zn zc ga gn gc o (cutsM rs) := by
      refine ⟨HZW.out W' hbw', HZK.out, ⟨csw, SlK.of_own (OwnK.move hh2 (hfk.mono hwW1)) HR2.out.ck, HR2.out.below hbw'⟩, qgQ HOK.out, ?_⟩
      obtain ⟨_, _, e⟩ := OwnK.shape HO3.out
      injection e with _ e _
      have q1 := HR2.out.1; have q2 := qdu rs; have q3 := HRL.out
      omega
     have hcv : NmsAt W' (.slice ca cn cc) (qaB o rs ss) := by
      have h3 := SlAt.of_own (OwnG.move hc2 (hfk.mono (by omega)))
      rw [List.map_map] at h3
      have e : qaB o rs ss = ((List.finRange ss.length).filter test).map fun x => ss[x].owner := by
       unfold qaB
       rw [HTEST.out, ← qeH ss (fun s => decide (s.ty = 39) && decide (whereM o rs s.owner = 1)), List.map_map]; rfl
      rw [e]
      refine nms_of h3 (fun x hxm => ?_)
      have hxl := x.isLt
      have hsa : sa = some ⟨b, off, none⟩ := by
       rcases HAA.out with h | h
       ·omega
       ·exact h
      obtain ⟨r1, r2, r3⟩ := qif (by omega) hsa HFK.out
      have hEA : EAt W' b off G := (HG3.out W3 (qL0)).keptB ((hfk b (by have := HZW0.out; omega) (Nat.lt_of_lt_of_le (Nat.lt_of_lt_of_le r2 hG1.size) hfs)).trans ((hagr b r2 r3 (by have := HZW0.out; omega)).trans (HGA.out.block b r2 (fun e => r3 (by injection e))).symm))
      exact (hrow.at HAA.out hEA x).own.1
     exact ⟨hrow, HSOK.out, HSL.out, hcz, hcv, fun n hn => by
      unfold qaB at hn
      obtain ⟨s, hs, rfl⟩ := List.mem_map.1 hn
      exact HSOK.out s (List.mem_filter.1 hs).1, by
      unfold qaB
      rw [List.length_map]
      exact Nat.le_trans (List.length_filter_le _ _) HSL.out⟩)
    have y0 := kcell hx 0 _ rfl; have y1 := kcell hx 1 _ rfl; have y2 := kcell hx 2 _ rfl; have y3 := kcell hx 3 _ rfl
    have r0 := kcell hrb 0 _ rfl; have r1 := kcell hrb 1 _ rfl; have r2 := kcell hrb 2 _ rfl; have r3 := kcell hrb 3 _ rfl
    have s0 := qag hrb 0; have s1 := qag hrb 1; have s2 := qag hrb 2; have s3 := qag hrb 3
    have HKS := qH0 hKs; have HFB := qH0 hfb; have HWF := qH0 hWf; have HFW := qH0 hfw
    clear hg hx ho hK hG1 hww hwl hz3 hs13 hrb1 hrb3 hrb hw1 hg4 hDl hWf hKs hfb hfo hfw hagr hgp hrd hfs hh2 hc2 hwW1 hD
    go_wp2
    refine ⟨by simp, .inl ⟨_, _, rfl, run_takeDeferred HKS.out, ?_⟩⟩
    rw [HWF.out]
    refine ⟨_, qgs rfl _ _ rfl rfl rfl rfl rfl (kcell HFB.out 0 _ rfl) (kcell HFB.out 1 _ rfl) (kcell HFB.out 2 _ rfl) (kcell HFB.out 3 _ rfl), ?_⟩
    exact ⟨sa, _, sc, ga, gn, gc, ca, cn, cc, rfl, HV.out, HFW.out⟩
   case stop =>
    rintro D k pre W hD hp hF hK
    exact hF.elim
end
end Go.Proofs.YtnpnfajgphpabaaGreat
namespace Go.Proofs.YtnpnfajgphpabaaGreat
set_option linter.unusedVariables false
set_option linter.unusedSimpArgs false
set_option maxRecDepth 20000
set_option maxHeartbeats 2000000
set_option linter.unusedSectionVars false
open Go.RowKit Go.Shelf Go.Sort Go.Lib
open Stb (COrd Lx Rise)
theorem qce (w : World) (r : Option Nat) : w.grownBy w r := ⟨rfl, rfl, rfl, qN0, fun _ _ _ => rfl⟩
def FlG (w : World) (g : Nat) : Type := { x : List Value × Fl × Nat // (∀ W, w.grownBy W (some g) → FlAt W x.1 x.2.1) ∧ NmOK x.2.1.owner }
instance (w : World) (g : Nat) : Inhabited (FlG w g) := ⟨⟨(_, ⟨0, [], 0⟩, 0), fun W _ => qfU W, ⟨Nat.zero_le _, by simp⟩⟩⟩
def FlG.cells {w : World} {g : Nat} (x : FlG w g) : List Value := x.1.1
def FlG.fl {w : World} {g : Nat} (x : FlG w g) : Fl := x.1.2.1
def FlG.tg {w : World} {g : Nat} (x : FlG w g) : Nat := x.1.2.2
theorem qlh (w : World) (g : Nat) (css : List (List Value)) (fs : List Fl) (h : ∀ W, w.grownBy W (some g) → Fls' W css fs) (hl : css.length = fs.length) (hOK : ∀ f ∈ fs, NmOK f.owner) : ∃ d : Array (FlG w g), d.toList.map FlG.cells = css ∧ d.toList.map FlG.fl = fs ∧ ∀ i, i < d.size → d[i]!.tg = i := by
 let f : Fin css.length → FlG w g := fun i => ⟨(css[i], fs[i.1]'(by have := i.2; omega), i.1), fun W hW => (h W hW).2 i.1 i.2 (by have := i.2; omega), hOK _ (List.getElem_mem _)⟩
 refine ⟨Array.ofFn f, ?_, ?_, fun i hi => ?_⟩
 ·apply List.ext_getElem
  ·simp
  ·intro i h1 h2
   rw [List.getElem_map, Array.getElem_toList, Array.getElem_ofFn]; rfl
 ·apply List.ext_getElem
  ·simp; omega
  ·intro i h1 h2
   rw [List.getElem_map, Array.getElem_toList, Array.getElem_ofFn]; rfl
 ·have hi' : i < css.length := by simpa using hi
  rw [getElem!_pos _ i hi, Array.getElem_ofFn]
  rfl
theorem FlG.len {w : World} {g : Nat} (x : FlG w g) : x.1.1.length = 3 := (x.2.1 w (qce w _)).len
theorem qjj (w : World) (g : Nat) : Fls.CmpB Tryz.prog 14 #[] (FlG.cells (w := w) (g := g)) (cfF FlG.fl) w g where
 eg := enters_of Tryz.func14 (by kernel_rfl) rfl
 call := fun W hW x y => qdi _ _ _ _ W (x.2.1 W hW) (y.2.1 W hW) x.2.2 y.2.2
def qgj (w : World) (v : Value) (n : Nat) (fs : List Fl) (e : Ending) (w' : World) : Prop := e = .returned (.tuple #[]) ∧ ∃ css' fs', SlK w' v css' ∧ css'.length = n ∧ Fls' w' css' fs' ∧ fs'.Perm fs ∧ (fs'.Pairwise fun a b => qaj a b ≤ 0) ∧ w.grownBy w' v.ownBlock
theorem qhE (v : Value) (css : List (List Value)) (fs : List Fl) (w : World) (base : Nat) (hR : ∀ W, w.grownBy W v.ownBlock → Fls' W css fs) (hOK : ∀ f ∈ fs, NmOK f.owner) (hown : OwnC 3 49 w base v css) (hl : css.length ≤ 1000000000000) :
 Calls Tryz.prog 53 #[v, .int .i64 css.length, .func (.func 14) #[] #[]] w (qgj w v css.length fs) := by
 have hR0 := hR w (qce w _)
 have hck : ∀ cs ∈ css, cs.length = 3 := fun cs hc => by
  obtain ⟨i, hi, rfl⟩ := List.mem_iff_getElem.1 hc
  exact (hR0.2 i hi (by have := hR0.1; omega)).len
 by_cases h0 : css = []
 ·subst h0
  have hr0 : fs = [] := List.eq_nil_of_length_eq_zero hR0.1.symm
  subst hr0
  obtain ⟨a, c, rfl⟩ := hown.shape
  refine (qhe a c _ w).mono ?_
  rintro e w' ⟨rfl, rfl⟩
  exact ⟨rfl, [], [], SlK.of_own hown hck, rfl, ⟨rfl, fun i h1 => absurd h1 (Nat.not_lt_zero _)⟩, List.Perm.refl _, List.Pairwise.nil, qce w _⟩
 ·rcases id hown.2 with ⟨e, h00⟩ | ⟨g, cap, cur, rfl, hbg, hg, hcap, hm, hsz, htk⟩
  ·exact absurd (List.eq_nil_of_length_eq_zero h00) h0
  obtain ⟨d, hd1, hd2, hd3⟩ := qlh w g css fs hR hR0.1 hOK
  have hn : css.length = d.size := by rw [← hd1]; simp
  have hH : HoldsK FlG.cells 3 w g 0 d := qdh FlG.cells 3 (fun x => x.len) hown d hd1
  have hlt : g < w.heap.size := (Array.getElem?_eq_some_iff.1 hg).1
  have hc := Fls.sort_stable Fls.slay_here qlf FlG.cells (fun x => x.len) (fun x => (x.2.1 w (qce w _)).one) (cfF FlG.fl) FlG.tg (qkz _) 14 #[] g 0 cap d w (qjj w g) hH hlt hd3 (by omega)
  rw [← hn] at hc
  refine hc.mono ?_
  rintro e w' ⟨rfl, d', hp, hr, hs⟩
  have hsz' : d'.size = d.size := hp.1
  obtain ⟨hp2, hs2⟩ := qi2 FlG.fl FlG.tg hp hr
  rw [hd2] at hp2
  refine ⟨rfl, d'.toList.map FlG.cells, d'.toList.map FlG.fl, qdM FlG.cells 3 (fun x => x.len) d' hs.row (by omega) hcap hs.lt', by simp; omega, ⟨by simp, fun i h1 h2 => ?_⟩, hp2, hs2, hs.rest⟩
  simp only [List.getElem_map]
  exact (d'.toList[i]'(by simpa using h1)).2.1 w' hs.rest
theorem qh8 (v : Value) (css : List (List Value)) (fs : List Fl) (w : World) (base : Nat) (hR : ∀ W, w.grownBy W v.ownBlock → Fls' W css fs) (hOK : ∀ f ∈ fs, NmOK f.owner) (hown : OwnC 3 49 w base v css) (hl : css.length ≤ 1000000000000) :
 Calls Tryz.prog 23 #[v, .func (.func 14) #[] #[]] w (qgj w v css.length fs) := by
 have hc := qhE v css fs w base hR hOK hown hl
 obtain ⟨a, c, rfl⟩ := hown.shape
 clear hR hOK hown
 obtain ⟨n, hn⟩ : ∃ n, css.length = n := ⟨_, rfl⟩
 rw [hn] at hc hl ⊢
 clear hn
 go_enter Tryz.func23, Tryz.ntmps23
 go_wp2_with fail
 refine hc.mono ?_
 rintro e w' ⟨rfl, css', h⟩
 go_wp2
 go_end0
 exact ⟨rfl, css', h⟩
end Go.Proofs.YtnpnfajgphpabaaGreat
namespace Go.Proofs.YtnpnfajgphpabaaGreat
set_option linter.unusedVariables false
set_option linter.unusedSimpArgs false
set_option maxRecDepth 100000
set_option maxHeartbeats 8000000
open Go.RowKit Go.Shelf
theorem qhZ : ElemK 3 49 28 40 := ⟨Tryz.underlying28, _, _, rfl, rfl, rfl, rfl, rfl⟩
theorem qk8 (k t : Int) (a : Option Addr) (n c : Nat) : ∀ cs ∈ [[Value.int .i64 k, .slice a n c, .int .i64 t]], cs.length = 3 := by
 intro cs hc
 rw [List.mem_singleton] at hc
 subst hc; rfl
theorem qh2 (k t : Int) (a : Option Addr) (n c : Nat) : ∀ cs ∈ [[Value.int .i64 k, .slice a n c, .int .i64 t]], ∀ u ∈ cs, u.oneCell' = true := by
 intro cs hc u hu
 rw [List.mem_singleton] at hc
 subst hc
 simp only [List.mem_cons, List.not_mem_nil, or_false] at hu
 rcases hu with rfl | rfl | rfl <;> rfl
def FrFl (W : World) (base : Nat) (cs : List Value) (f : Fl) : Prop := ∃ vo, cs = [.int .i64 f.kind, vo, .int .i64 f.ty] ∧ OwnG 9 strV W base vo f.owner
theorem FrFl.flAt {W : World} {base : Nat} {cs : List Value} {f : Fl} (h : FrFl W base cs f) : FlAt W cs f := by
 obtain ⟨vo, e, h1⟩ := h
 exact ⟨vo, e, h1.nmAt⟩
theorem FrFl.below {W W' : World} {base : Nat} {cs : List Value} {f : Fl} (h : FrFl W base cs f) (hb : Below W.heap.size W W') : FrFl W' base cs f := by
 obtain ⟨vo, e, h1⟩ := h
 exact ⟨vo, e, h1.below hb⟩
theorem FrFl.weaken {W : World} {base b2 : Nat} {cs : List Value} {f : Fl} (h : FrFl W base cs f) (hb : b2 ≤ base) : FrFl W b2 cs f := by
 obtain ⟨vo, e, h1⟩ := h
 exact ⟨vo, e, h1.weaken hb⟩
theorem FrFl.kept_c {W W' : World} {base base' k : Nat} {cs : List Value} {f : Fl} {T' : TypeId} {v' : Value} {yss : List (List Value)} (h : FrFl W base cs f) (h' : OwnC k T' W base' v' yss) (hT : 9 ≠ T') (hg : W.grownBy W' v'.ownBlock) : FrFl W' base cs f := by
 obtain ⟨vo, e, h1⟩ := h
 exact ⟨vo, e, h1.kept_c h' hT hg⟩
theorem FrFl.keptB {W : World} {base : Nat} {cs : List Value} {f : Fl} (h : FrFl W base cs f) {B : Nat} {xs : Array Value} {T : TypeId} (hB : W.heap[B]? = some (.cells xs T)) (hT : T ≠ 9) (j : Nat) (u : Value) : FrFl (W.setCell ⟨B, j, none⟩ u) base cs f := by
 obtain ⟨vo, e, h1⟩ := h
 exact ⟨vo, e, h1.keptB hB hT j u⟩
theorem FrFl.keptO {W W' : World} {base : Nat} {cs : List Value} {f : Fl} {row : Option Nat} (h : FrFl W base cs f) (hg : W.grownBy W' row) (hr : ∀ r, row = some r → ∃ o : Obj, W.heap[r]? = some o ∧ o.isCells = false) : FrFl W' base cs f := by
 obtain ⟨vo, e, h1⟩ := h
 exact ⟨vo, e, h1.keptO hg hr⟩
def FrFls (W : World) (base : Nat) (css : List (List Value)) (fs : List Fl) : Prop := css.length = fs.length ∧ ∀ i (h1 : i < css.length) (h2 : i < fs.length), FrFl W base css[i] fs[i]
theorem FrFls.snoc {W : World} {base : Nat} {css : List (List Value)} {fs : List Fl} {cs : List Value} {f : Fl} (h : FrFls W base css fs) (h1 : FrFl W base cs f) : FrFls W base (css ++ [cs]) (fs ++ [f]) := by
 refine ⟨by simp [h.1], fun i a b => ?_⟩
 by_cases hi : i < css.length
 ·rw [List.getElem_append_left hi, List.getElem_append_left (by have := h.1; omega)]
  exact h.2 i hi (by have := h.1; omega)
 ·have e : i = css.length := by simp at a; omega
  subst e
  rw [List.getElem_append_right (by omega), List.getElem_append_right (by have := h.1; omega)]
  simp only [List.getElem_singleton]
  exact h1
def FOut (W0 : World) (B : Nat) (fs : List Fl) (W : World) : Prop := ∃ (ga : Option Addr) (gn gc : Nat) (css : List (List Value)), W.heap[B]? = some (.cells #[.slice ga gn gc] 28) ∧ OwnC 3 49 W W0.heap.size (.slice ga gn gc) css ∧ FrFls W W0.heap.size css fs ∧ W0.grownBy W (some B)
theorem FOut.step {W0 w7 w8 : World} {B : Nat} {fs : List Fl} {ga : Option Addr} {gn gc : Nat} {css : List (List Value)} {k t : Int} {vo : Value} {o : Nm} {a8 : Option Addr} {n8 c8 : Nat}
 (hx : w7.heap[B]? = some (.cells #[.slice ga gn gc] 28)) (hown : OwnC 3 49 w7 W0.heap.size (.slice ga gn gc) css) (hfr : FrFls w7 W0.heap.size css fs) (hg : W0.grownBy w7 (some B)) (hn : OwnG 9 strV w7 W0.heap.size vo o)
 (hown8 : OwnC 3 49 w8 W0.heap.size (.slice a8 n8 c8) (css ++ [[.int .i64 k, vo, .int .i64 t]])) (hg8 : (w7.alloc (.cells #[.int .i64 k, vo, .int .i64 t] 49)).grownBy w8 (Value.slice ga gn gc).ownBlock) :
 FOut W0 B (fs ++ [⟨k, o, t⟩]) (w8.setCell ⟨B, 0, none⟩ (.slice a8 n8 c8)) ∧ w8.heap[B]? = some (.cells #[.slice ga gn gc] 28) := by
 have hbA := (Below.refl w7.heap.size w7).alloc (qN0) (.cells #[.int .i64 k, vo, .int .i64 t] 49)
 have hown7 := OwnK.below hown hbA
 have hx7 := (hbA.block _ (qaa hx)).trans hx
 have hx8 : w8.heap[B]? = some (.cells #[.slice ga gn gc] 28) := (hg8.block B (qaa hx7) (fun e => OwnK.ne_block hown7 hx7 (by decide) e)).trans hx7
 have hfr8 : FrFls w8 W0.heap.size (css ++ [[.int .i64 k, vo, .int .i64 t]]) (fs ++ [⟨k, o, t⟩]) := by
  refine FrFls.snoc ⟨hfr.1, fun i a b => ((hfr.2 i a b).below hbA).kept_c hown7 (by decide) hg8⟩ ?_
  exact ⟨vo, rfl, (hn.below hbA).kept_c hown7 (by decide) hg8⟩
 refine ⟨⟨a8, n8, c8, _, kset hx8 0 _, OwnK.keptB hown8 hx8 (by decide) 0 _, ⟨hfr8.1, fun i a b => (hfr8.2 i a b).keptB hx8 (by decide) 0 _⟩, ?_⟩, hx8⟩
 exact qat (kg_far (qbb hg hbA) hg8 (fun q e => .inl (OwnK.base_le hown q e))) (qaf w8 B 0 _)
def ClP (W0 : World) (B : Nat) (fs : List Fl) (ga : Option Addr) (gn gc : Nat) (css : List (List Value)) (o : Nm) (n : Nat) (W : World) (e : Ending) (w7 : World) : Prop :=
 ∃ a c, e = .returned (.slice a n c) ∧ OwnG 9 strV w7 W0.heap.size (.slice a n c) o ∧ w7.heap[B]? = some (.cells #[.slice ga gn gc] 28) ∧ OwnC 3 49 w7 W0.heap.size (.slice ga gn gc) css ∧ FrFls w7 W0.heap.size css fs ∧ W0.grownBy w7 (some B) ∧ Below W.heap.size W w7
theorem qi6 {W0 W : World} {B : Nat} {fs : List Fl} {ga : Option Addr} {gn gc : Nat} {css : List (List Value)} {v : Value} {o : Nm} {n : Nat} (hn : o.length = n) (hx : W.heap[B]? = some (.cells #[.slice ga gn gc] 28)) (hown : OwnC 3 49 W W0.heap.size (.slice ga gn gc) css) (hfr : FrFls W W0.heap.size css fs) (hg : W0.grownBy W (some B)) (hO : NmAt W v o) (hko : NmOK o) :
 Calls Tryz.prog 22 #[v] W (ClP W0 B fs ga gn gc css o n W) := by
 refine (qbr v o W hO.1 hO.2 (by have := hko.1; omega)).mono ?_
 rintro e w7 ⟨v7, rfl, ho7, hb7⟩
 obtain ⟨a7, c7, rfl⟩ := ho7.shape
 subst hn
 exact ⟨a7, c7, rfl, ho7.weaken hg.size, (hb7.block _ (qaa hx)).trans hx, OwnK.below hown hb7, ⟨hfr.1, fun i a b => (hfr.2 i a b).below hb7⟩, qbb hg hb7, hb7⟩
theorem qj0 {W0 W : World} {B bz : Nat} {fs : List Fl} {za : Option Addr} {zn zc : Nat} {zr : Value} {o : Nm} (k t : Int) (h : FOut W0 B fs W) (hz : W.heap[bz]? = some (.cells #[.slice za zn zc, zr] 31)) (hO : NmAt W (.slice za zn zc) o) (hko : NmOK o) (hl : fs.length ≤ 10000000) :
 Calls Tryz.prog 45 #[.int .i64 k, .int .i64 t, .pointer (some ⟨B, 0, none⟩), .pointer (some ⟨bz, 0, none⟩)] W fun e W' => e = .returned (.tuple #[]) ∧ FOut W0 B (fs ++ [⟨k, o, t⟩]) W' := by
 obtain ⟨ga, gn, gc, css, hx, hown, hfr, hg⟩ := h
 obtain ⟨no, hno⟩ : ∃ n, o.length = n := ⟨_, rfl⟩
 have hneB : bz ≠ B := by
  rintro rfl
  rw [hx] at hz
  injection hz with hz
  injection hz with _ hz
  exact absurd hz (by decide)
 have HC := qH0 (qi6 (W0 := W0) (B := B) (fs := fs) (W := W.drew) (v := .slice za zn zc) (css := css) hno hx (OwnK.below hown (kdrew (Below.refl _ W))) ⟨hfr.1, fun i a b => (hfr.2 i a b).below (kdrew (Below.refl _ W))⟩ (qbb hg (kdrew (Below.refl _ W))) (hO.below (kdrew (Below.refl _ W))) hko)
 have hcl : css.length ≤ 10000000 := by rw [hfr.1]; exact hl
 have HZB : Hid (W.drew.heap[bz]? = some (.cells #[.slice za zn zc, zr] 31)) := qH0 hz
 have c0 := kcell hx 0 (.slice ga gn gc) rfl
 have hS0 : W.drew.cell? ⟨bz, 0, none⟩ = some (.slice za zn zc) := kcell hz 0 _ rfl
 have hS00 : W.cell? ⟨bz, 0, none⟩ = some (.slice za zn zc) := kcell hz 0 _ rfl
 have KA := qH0 (fun (X : World) (ob : Obj) (h : X.cell? ⟨bz, 0, none⟩ = some (.slice za zn zc)) => (show (X.alloc ob).cell? ⟨bz, 0, none⟩ = some (.slice za zn zc) from (World.cell?_alloc_lt X ob ⟨bz, 0, none⟩ (World.block_lt_of_cell? X _ h)).trans h))
 have KS := qH0 (fun (X X' : World) (h : X.cell? ⟨bz, 0, none⟩ = some (.slice za zn zc)) (hb : Below X.heap.size X X') => (show X'.cell? ⟨bz, 0, none⟩ = some (.slice za zn zc) from (hb.cell (World.block_lt_of_cell? X _ h)).trans h))
 have KP := qH0 (fun (X : World) (u : Value) (h : X.cell? ⟨bz, 0, none⟩ = some (.slice za zn zc)) => (show (X.setCell ⟨B, 0, none⟩ u).cell? ⟨bz, 0, none⟩ = some (.slice za zn zc) from (World.cell?_setCell_far X ⟨B, 0, none⟩ ⟨bz, 0, none⟩ u (fun e => hneB e.symm)).trans h))
 have KG := qH0 (fun (X X' : World) (hb : X.heap[bz]? = some (.cells #[.slice za zn zc, zr] 31)) (hg' : X.grownBy X' (Value.slice ga gn gc).ownBlock) (hO' : OwnC 3 49 X W0.heap.size (.slice ga gn gc) css) => (show X'.cell? ⟨bz, 0, none⟩ = some (.slice za zn zc) from kcell ((hg'.block bz (qaa hb) (fun e => OwnK.ne_block hO' hb (by decide) e)).trans hb) 0 _ rfl))
 have HLN := qH0 hcl
 clear hz hown hfr hg hO hko hl hcl hno hneB hx
 go_enter Tryz.func45, Tryz.ntmps45
 go_region_law
  (first
    | (go_simp; (with_reducible refine (HC.out).mono ?_); rintro e w7 ⟨ya, yc, rfl, hn7, hx7, hown7, hfr7, hg7, hb7⟩; have hS7 := KS.out _ _ hS0 hb7; have c7 := kcell hx7 0 (.slice ga gn gc) rfl; have hbA := (Below.refl w7.heap.size w7).alloc (qN0) (.cells #[.int .i64 k, .slice ya no yc, .int .i64 t] 49); have c7A := kcell ((hbA.block B (qaa hx7)).trans hx7) 0 (.slice ga gn gc) rfl; have hownA := OwnK.below hown7 hbA; have hsA : W0.heap.size ≤ (w7.alloc (.cells #[.int .i64 k, .slice ya no yc, .int .i64 t] 49)).heap.size := Nat.le_trans hg7.size hbA.size; have hsl : SlK (w7.alloc (.cells #[.int .i64 k, .slice ya no yc, .int .i64 t] 49)) (.slice (some ⟨w7.heap.size, 0, none⟩) 1 1) [[.int .i64 k, .slice ya no yc, .int .i64 t]] := qay (css := [[.int .i64 k, .slice ya no yc, .int .i64 t]]) (knew w7 _); have HP := qH0 (fun (ops : Array Oper) (o : Oper) (a : Act) (K : Act → World → Prop) (Q : Exit → Act → World → Prop) (E : Prop) (h1 : o.guard = none) (h2 : o.op = .call { callee := .builtin .append, args := #[.tmp 6, .tmp 13], argTypes := #[28, 28] }) (h3 : a.eval (.tmp 6) = .slice ga gn gc) (h4 : a.eval (.tmp 13) = .slice (some ⟨w7.heap.size, 0, none⟩) 1 1) h => qbM (ops := ops) (a := a) (K := K) (Q := Q) (E := E) (w7.alloc (.cells #[.int .i64 k, .slice ya no yc, .int .i64 t] 49)) h1 (.tmp 6) (.tmp 13) qhZ (by decide) h2 W0.heap.size _ css h3 hownA _ _ h4 hsl (qk8 _ _ _ _ _) (qh2 _ _ _ _ _) hsA (by have := HLN.out; unfold maxLen; simp only [List.length_cons, List.length_nil]; omega) (by have := HLN.out; simp only [List.length_cons, List.length_nil]; omega) h); have hzA := qH0 (((Below.refl w7.heap.size w7).alloc (qN0) (.cells #[.int .i64 k, .slice ya no yc, .int .i64 t] 49)).block bz (Nat.lt_of_lt_of_le (qaa HZB.out) hb7.size) |>.trans ((hb7.block bz (qaa HZB.out)).trans HZB.out)); have H7 := qH0 (And.intro hn7 (And.intro hx7 (And.intro hown7 (And.intro hfr7 hg7)))); clear hn7 hx7 hown7 hfr7 hg7 hb7 hbA hownA hsA hsl)
    | ((with_reducible refine HP.out _ _ _ _ _ _ ?_ ?_ ?_ ?_ ?_); exact rfl; exact rfl; exact rfl; exact rfl; intro v8 w8 ho8 hg8; obtain ⟨a8, c8, e8⟩ := OwnK.shape ho8; generalize List.length (css ++ _) = n8 at e8; subst e8; obtain ⟨p1, p2, p3, p4, p5⟩ := H7.out; have hfin := FOut.step p2 p3 p4 p5 p1 ho8 hg8; have hS8 := KG.out _ _ hzA.out hg8 (OwnK.below p3 ((Below.refl w7.heap.size w7).alloc (qN0) (.cells #[.int .i64 k, .slice ya no yc, .int .i64 t] 49))); have c8' := kcell hfin.2 0 (.slice ga gn gc) rfl; have f8 := qag hfin.2 0; have HF := qH0 hfin.1; clear p1 p2 p3 p4 p5 hfin ho8 hg8 HP H7))
 all_goals
  go_end0
  exact ⟨rfl, HF.out⟩
end Go.Proofs.YtnpnfajgphpabaaGreat
