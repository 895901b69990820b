/-
  A view: (check.view).kinds. (Written by wip/tools/genki.py.)
-/
import Derived.Test.YtckammgnmgkieaaMQ40
import Derived.Test.YtckammgnmgkieaaMQ17
namespace Go.Proofs.Ytckammgnmgkieaa
set_option maxRecDepth 20000
open Go.RowKit Go.Shelf
set_option maxRecDepth 20000
set_option linter.unusedVariables false
set_option linter.unusedSimpArgs false
theorem iff1_len (b : Bool) (k : Int) : (iff1 b k).length ≤ 1 := by unfold iff1; split <;> simp
def KiPost (w : World) (l : List Int) (e : Ending) (w' : World) : Prop := ∃ v, e = .returned v ∧ OwnG 3 iv w' w.heap.size v l ∧ Below w.heap.size w w'
/-- A view in memory. -/
structure ViewAt (W : World) (sa : Option Addr) (sn sc : Nat) (za : Option Addr) (zn zc : Nat) (va : Option Addr) (vn vc : Nat) (cv : Value) (o : Nm) (rs2 : List Rc) (ss : List St) (cs : List Nm) : Prop where
  sets : RowS W (.slice sa sn sc) ss
  sok : ∀ s ∈ ss, NmOK s.owner
  sl : ss.length ≤ 1048576
  cuts : ZonS W za zn zc va vn vc o rs2
  cov : NmsAt W cv cs
  cok : ∀ c ∈ cs, NmOK c
  cl : cs.length ≤ 1048576
theorem ViewAt.below {W W' : World} {sa : Option Addr} {sn sc : Nat} {za : Option Addr} {zn zc : Nat} {va : Option Addr} {vn vc : Nat} {cv : Value} {o : Nm} {rs2 : List Rc} {ss : List St} {cs : List Nm} (h : ViewAt W sa sn sc za zn zc va vn vc cv o rs2 ss cs) (hb : Below W.heap.size W W') : ViewAt W' sa sn sc za zn zc va vn vc cv o rs2 ss cs :=
  ⟨h.sets.below hb, h.sok, h.sl, h.cuts.below hb, h.cov.below hb, h.cok, h.cl⟩
set_option maxRecDepth 100000 in
set_option maxHeartbeats 16000000 in
theorem view_kinds {w : World} {sa : Option Addr} {sn sc : Nat} {za : Option Addr} {zn zc : Nat} {va : Option Addr} {vn vc : Nat} {ca : Option Addr} {cn cc : Nat} {o : Nm} {rs2 : List Rc} {ss : List St} {cs : List Nm} (p0 : Option Addr) (q0 k0 : Nat) (ty tl : Int) (p3 : Option Addr) (q3 k3 : Nat) (s : St) (hV : ViewAt w sa sn sc za zn zc va vn vc (.slice ca cn cc) o rs2 ss cs) (hs : SetR w [.slice p0 q0 k0, .int .i64 ty, .int .u32 tl, .slice p3 q3 k3] s) (hko : NmOK s.owner) :
    Calls Try.prog 20 #[.agg #[.slice sa sn sc, .slice za zn zc, .slice va vn vc, .slice ca cn cc], .agg #[.slice p0 q0 k0, .int .i64 ty, .int .u32 tl, .slice p3 q3 k3]] w (KiPost w (kindsW o (whereM o rs2 s.owner) (otherM ss s) (coverM cs s.owner) s)) := by
  obtain ⟨hown, hty, hq3⟩ := hs.own
  subst hty
  have HWH := Lib.hid (fun (W : World) (hb : Below w.heap.size w W) => zone_Where (hV.cuts.below hb) (hown.below hb) hko)
  have HSM := Lib.hid (fun (W : World) (hb : Below w.heap.size w W) => kn_NSame (.slice p0 q0 k0) (.slice za zn zc) s.owner o _ rfl W (hown.below hb) (hV.cuts.1.below hb) hko hV.cuts.2.1)
  have HOT := Lib.hid (fun (W : World) (hb : Below w.heap.size w W) => view_hasOther sa sn sc (.slice za zn zc) (.slice va vn vc) (.slice ca cn cc) ss p0 q0 k0 s.ty tl p3 q3 k3 s W ⟨rfl, rfl, rfl⟩ (hV.sets.below hb) hV.sok hV.sl (hs.below hb) hko)
  have HCV := Lib.hid (fun (W : World) (hb : Below w.heap.size w W) => view_covered (.slice sa sn sc) (.slice za zn zc) (.slice va vn vc) (.slice ca cn cc) cs (.slice p0 q0 k0) s.owner ⟨rfl, rfl, rfl⟩ (hV.cov.below hb) hV.cok hV.cl (hown.below hb) hko)
  have HWI := Lib.hid (fun (W : World) (hb : Below w.heap.size w W) => kn_NWild (.slice p0 q0 k0) s.owner _ rfl W (hown.below hb) hko)
  obtain ⟨wh, hwh⟩ : ∃ x, whereM o rs2 s.owner = x := ⟨_, rfl⟩
  obtain ⟨oth, hoth⟩ : ∃ x, otherM ss s = x := ⟨_, rfl⟩
  obtain ⟨cov, hcov⟩ : ∃ x, coverM cs s.owner = x := ⟨_, rfl⟩
  obtain ⟨sm, hsm⟩ : ∃ x, sameN s.owner o = x := ⟨_, rfl⟩
  obtain ⟨wi, hwi⟩ : ∃ x, wildN s.owner = x := ⟨_, rfl⟩
  rw [hwh] at HWH ⊢
  rw [hoth] at HOT ⊢
  rw [hcov] at HCV ⊢
  rw [hsm] at HSM
  rw [hwi] at HWI
  obtain ⟨b4, hb4⟩ : ∃ x, kind4 o wh s = x := ⟨_, rfl⟩
  obtain ⟨b5, hb5⟩ : ∃ x, kind5 oth s = x := ⟨_, rfl⟩
  obtain ⟨b6, hb6⟩ : ∃ x, kind6 s = x := ⟨_, rfl⟩
  obtain ⟨b7, hb7⟩ : ∃ x, kind7 wh s = x := ⟨_, rfl⟩
  obtain ⟨b8, hb8⟩ : ∃ x, kind8 wh cov = x := ⟨_, rfl⟩
  obtain ⟨b9, hb9⟩ : ∃ x, kind9 s = x := ⟨_, rfl⟩
  have HK : Hid (kindsW o wh oth cov s = iff1 b4 4 ++ (iff1 b5 5 ++ (iff1 b6 6 ++ (iff1 b7 7 ++ (iff1 b8 8 ++ iff1 b9 9))))) := Lib.hid (by unfold kindsW; rw [hb4, hb5, hb6, hb7, hb8, hb9])
  generalize kindsW o wh oth cov s = res at *
  unfold kind4 at hb4; unfold kind5 at hb5; unfold kind6 at hb6; unfold kind7 at hb7; unfold kind8 at hb8; unfold kind9 at hb9
  rw [hsm] at hb4
  rw [hwi] at hb9
  rw [← hq3] at hb6
  generalize s.ty = ty at *
  obtain ⟨adr, hadr⟩ : ∃ x, (decide (ty = 1) || decide (ty = 28)) = x := ⟨_, rfl⟩
  rw [hadr] at hb7
  have HB4 := Lib.hid hb4; have HB5 := Lib.hid hb5; have HB6 := Lib.hid hb6; have HB7 := Lib.hid hb7; have HB8 := Lib.hid hb8; have HB9 := Lib.hid hb9; have HAD := Lib.hid hadr
  clear hwh hoth hcov hsm hwi hb4 hb5 hb6 hb7 hb8 hb9 hadr hq3 hown hV hs hko
  go_enter Try.func20, Try.ntmps20
  obtain ⟨W0, hW0⟩ : ∃ W0, ((w.alloc (.cells #[.slice sa sn sc, .slice za zn zc, .slice va vn vc, .slice ca cn cc] 57)).alloc (.cells #[.slice p0 q0 k0, .int .i64 ty, .int .u32 tl, .slice p3 q3 k3] 64)) = W0 := ⟨_, rfl⟩
  have HB0 : Hid (Below w.heap.size w W0) := Lib.hid (by rw [← hW0]; exact ((Below.refl w.heap.size w).alloc (Nat.le_refl _) _).alloc (by simp) _)
  have x0 : W0.heap[w.heap.size]? = some (.cells #[.slice sa sn sc, .slice za zn zc, .slice va vn vc, .slice ca cn cc] 57) := by
    rw [← hW0]; exact (Below.heap_alloc _ _ _ (by simp)).trans (knew w _)
  have x1 : W0.heap[w.heap.size + 1]? = some (.cells #[.slice p0 q0 k0, .int .i64 ty, .int .u32 tl, .slice p3 q3 k3] 64) := by
    have h := knew (w.alloc (.cells #[.slice sa sn sc, .slice za zn zc, .slice va vn vc, .slice ca cn cc] 57)) (.cells #[.slice p0 q0 k0, .int .i64 ty, .int .u32 tl, .slice p3 q3 k3] 64)
    rw [World.size_alloc] at h
    rw [← hW0]; exact h
  have KX : Hid (∀ W, Below W0.heap.size W0 W → W.heap[w.heap.size]? = some (.cells #[.slice sa sn sc, .slice za zn zc, .slice va vn vc, .slice ca cn cc] 57) ∧ W.heap[w.heap.size + 1]? = some (.cells #[.slice p0 q0 k0, .int .i64 ty, .int .u32 tl, .slice p3 q3 k3] 64) ∧ Below w.heap.size w W) := Lib.hid fun W hW => ⟨(hW.block _ (kblock_lt x0)).trans x0, (hW.block _ (kblock_lt x1)).trans x1, HB0.out.trans (hW.mono HB0.out.size)⟩
  have hc := HWH.out W0 HB0.out
  have y1 := kcell x0 1 _ rfl; have y2 := kcell x0 2 _ rfl; have u0 := kcell x1 0 _ rfl
  clear x0 x1 HWH
  go_wp2_with fail
  clear hW0
  refine hc.mono ?_
  rintro e w1 ⟨rfl, hb1⟩
  clear hc y1 y2 u0
  have HBr : Hid (Below W0.heap.size W0 w1) := Lib.hid hb1
  have HOr : Hid (OwnG 3 iv w1 W0.heap.size (.slice none 0 0) []) := Lib.hid (OwnG.nil _ _)
  clear hb1
  go_upto_region 3 with (fail)
  go_cut [28] (fun v wx => v = .bool b4 ∧ Hid (Below W0.heap.size W0 wx) ∧ Hid (OwnG 3 iv wx W0.heap.size (.slice none 0 0) ([])))
  case first =>
    obtain ⟨x0, x1, hww⟩ := KX.out w1 HBr.out
    have y0 := kcell x0 0 _ rfl; have y1 := kcell x0 1 _ rfl; have y2 := kcell x0 2 _ rfl; have y3 := kcell x0 3 _ rfl
    have u0 := kcell x1 0 _ rfl; have u1 := kcell x1 1 _ rfl; have u2 := kcell x1 2 _ rfl; have u3 := kcell x1 3 _ rfl
    have HWW := Lib.hid hww
    clear x0 x1 hww
    by_cases h0 : wh = 0
    · subst h0
      have HE : Hid (b4 = true) := Lib.hid (by rw [← HB4.out]; simp [*])
      go_wp2_with fail
      go_meet
      exact ⟨by rw [HE.out], HBr, HOr⟩
    · have h0b : (wh == 0) = false := by simpa using h0
      by_cases h6 : ty = 6
      · subst h6
        cases sm
        · have HE : Hid (b4 = true) := Lib.hid (by rw [← HB4.out]; simp [*])
          have hc := HSM.out _ HWW.out
          go_wp2_with fail
          refine hc.mono ?_
          rintro e w9 ⟨rfl, hb9⟩
          have HB9' : Hid (Below W0.heap.size W0 w9) := Lib.hid (HBr.out.trans (hb9.mono HBr.out.size))
          have HO9 : Hid (OwnG 3 iv w9 W0.heap.size (.slice none 0 0) ([])) := Lib.hid (OwnG.below HOr.out hb9)
          clear hc hb9 y0 y1 y2 y3 u0 u1 u2 u3
          go_wp2_with fail
          go_meet
          exact ⟨by rw [HE.out], HB9', HO9⟩
        · have HE : Hid (b4 = false) := Lib.hid (by rw [← HB4.out]; simp [*])
          have hc := HSM.out _ HWW.out
          go_wp2_with fail
          refine hc.mono ?_
          rintro e w9 ⟨rfl, hb9⟩
          have HB9' : Hid (Below W0.heap.size W0 w9) := Lib.hid (HBr.out.trans (hb9.mono HBr.out.size))
          have HO9 : Hid (OwnG 3 iv w9 W0.heap.size (.slice none 0 0) ([])) := Lib.hid (OwnG.below HOr.out hb9)
          clear hc hb9 y0 y1 y2 y3 u0 u1 u2 u3
          go_wp2_with fail
          go_meet
          exact ⟨by rw [HE.out], HB9', HO9⟩
      · have h6b : (ty == 6) = false := by simpa using h6
        have HE : Hid (b4 = false) := Lib.hid (by rw [← HB4.out]; simp [*])
        go_wp2_with fail
        go_meet
        exact ⟨by rw [HE.out], HBr, HOr⟩
  case rest =>
  rename World => w2
  obtain ⟨rfl, HBr2, HOr2⟩ := hcut
  clear HBr HOr
  have HBr := HBr2; have HOr := HOr2
  clear HBr2 HOr2
  go_upto_if 28 with (fail)
  go_cut [5] (fun v wx => ∃ (a : Option Addr) (m c : Nat), v = .slice a m c ∧ Hid (Below W0.heap.size W0 wx) ∧ Hid (OwnG 3 iv wx W0.heap.size (.slice a m c) (iff1 b4 4)))
  case first =>
    cases b4
    · go_wp2_with fail
      go_meet
      exact ⟨_, _, _, rfl, HBr, Lib.hid (by have h := HOr.out; simpa [iff1] using h)⟩
    · have hz := HBr.out.size
      have HLn : Hid ((([] : List Int)).length ≤ 5) := Lib.hid (by (try simp only [List.length_append, List.length_nil]); omega)
      go_wp2_with (at_builtin; (refine wpl_append_g w2 rfl (.tmp 29) (.tmp 30) elemInt rfl (fun _ => rfl) W0.heap.size (.slice none 0 0) ([]) rfl HOr.out [.int .i64 4] [4] rfl 1 1 rfl rfl hz (by have := HLn.out; unfold maxLen; simp only [List.length_cons, List.length_nil] at *; omega) (by have := HLn.out; simp only [List.length_cons, List.length_nil] at *; omega) ?_); intro v3 w9 hown3 hg3)
      have HB9' : Hid (Below W0.heap.size W0 w9) := Lib.hid (HBr.out.grown hg3 hz HOr.out.base_le)
      obtain ⟨a9, m9, c9, rfl⟩ : ∃ a m c, v3 = .slice a m c := by obtain ⟨a, c, e⟩ := hown3.shape; exact ⟨_, _, _, e⟩
      have HO9 := Lib.hid hown3
      clear hown3 hg3 hz
      go_meet
      exact ⟨_, _, _, rfl, HB9', Lib.hid (by have h := HO9.out; simpa [iff1] using h)⟩
  case rest =>
  rename World => w3
  obtain ⟨a3, m3, c3, rfl, HBr2, HOr2⟩ := hcut
  clear HBr HOr
  have HBr := HBr2; have HOr := HOr2
  clear HBr2 HOr2
  go_upto_region 5 with (fail)
  go_cut [39] (fun v wx => v = .bool b5 ∧ Hid (Below W0.heap.size W0 wx) ∧ Hid (OwnG 3 iv wx W0.heap.size (.slice a3 m3 c3) (iff1 b4 4)))
  case first =>
    obtain ⟨x0, x1, hww⟩ := KX.out w3 HBr.out
    have y0 := kcell x0 0 _ rfl; have y1 := kcell x0 1 _ rfl; have y2 := kcell x0 2 _ rfl; have y3 := kcell x0 3 _ rfl
    have u0 := kcell x1 0 _ rfl; have u1 := kcell x1 1 _ rfl; have u2 := kcell x1 2 _ rfl; have u3 := kcell x1 3 _ rfl
    have HWW := Lib.hid hww
    clear x0 x1 hww
    by_cases h5 : ty = 5
    · subst h5
      cases oth
      · have HE : Hid (b5 = false) := Lib.hid (by rw [← HB5.out]; simp [*])
        have hc := HOT.out _ HWW.out
        go_wp2_with fail
        refine hc.mono ?_
        rintro e w9 ⟨rfl, hb9⟩
        have HB9' : Hid (Below W0.heap.size W0 w9) := Lib.hid (HBr.out.trans (hb9.mono HBr.out.size))
        have HO9 : Hid (OwnG 3 iv w9 W0.heap.size (.slice a3 m3 c3) (iff1 b4 4)) := Lib.hid (OwnG.below HOr.out hb9)
        clear hc hb9 y0 y1 y2 y3 u0 u1 u2 u3
        go_wp2_with fail
        go_meet
        exact ⟨by rw [HE.out], HB9', HO9⟩
      · have HE : Hid (b5 = true) := Lib.hid (by rw [← HB5.out]; simp [*])
        have hc := HOT.out _ HWW.out
        go_wp2_with fail
        refine hc.mono ?_
        rintro e w9 ⟨rfl, hb9⟩
        have HB9' : Hid (Below W0.heap.size W0 w9) := Lib.hid (HBr.out.trans (hb9.mono HBr.out.size))
        have HO9 : Hid (OwnG 3 iv w9 W0.heap.size (.slice a3 m3 c3) (iff1 b4 4)) := Lib.hid (OwnG.below HOr.out hb9)
        clear hc hb9 y0 y1 y2 y3 u0 u1 u2 u3
        go_wp2_with fail
        go_meet
        exact ⟨by rw [HE.out], HB9', HO9⟩
    · have h5b : (ty == 5) = false := by simpa using h5
      have HE : Hid (b5 = false) := Lib.hid (by rw [← HB5.out]; simp [*])
      go_wp2_with fail
      go_meet
      exact ⟨by rw [HE.out], HBr, HOr⟩
  case rest =>
  rename World => w4
  obtain ⟨rfl, HBr2, HOr2⟩ := hcut
  clear HBr HOr
  have HBr := HBr2; have HOr := HOr2
  clear HBr2 HOr2
  go_upto_if 39 with (fail)
  go_cut [5] (fun v wx => ∃ (a : Option Addr) (m c : Nat), v = .slice a m c ∧ Hid (Below W0.heap.size W0 wx) ∧ Hid (OwnG 3 iv wx W0.heap.size (.slice a m c) (iff1 b4 4 ++ iff1 b5 5)))
  case first =>
    cases b5
    · go_wp2_with fail
      go_meet
      exact ⟨_, _, _, rfl, HBr, Lib.hid (by have h := HOr.out; simpa [iff1] using h)⟩
    · have hz := HBr.out.size
      have HLn : Hid ((iff1 b4 4).length ≤ 5) := Lib.hid (by have := iff1_len b4 4; (try simp only [List.length_append, List.length_nil]); omega)
      go_wp2_with (at_builtin; (refine wpl_append_g w4 rfl (.tmp 40) (.tmp 41) elemInt rfl (fun _ => rfl) W0.heap.size (.slice a3 m3 c3) (iff1 b4 4) rfl HOr.out [.int .i64 5] [5] rfl 1 1 rfl rfl hz (by have := HLn.out; unfold maxLen; simp only [List.length_cons, List.length_nil] at *; omega) (by have := HLn.out; simp only [List.length_cons, List.length_nil] at *; omega) ?_); intro v3 w9 hown3 hg3)
      have HB9' : Hid (Below W0.heap.size W0 w9) := Lib.hid (HBr.out.grown hg3 hz HOr.out.base_le)
      obtain ⟨a9, m9, c9, rfl⟩ : ∃ a m c, v3 = .slice a m c := by obtain ⟨a, c, e⟩ := hown3.shape; exact ⟨_, _, _, e⟩
      have HO9 := Lib.hid hown3
      clear hown3 hg3 hz
      go_meet
      exact ⟨_, _, _, rfl, HB9', Lib.hid (by have h := HO9.out; simpa [iff1] using h)⟩
  case rest =>
  rename World => w5
  obtain ⟨a5, m5, c5, rfl, HBr2, HOr2⟩ := hcut
  clear HBr HOr
  have HBr := HBr2; have HOr := HOr2
  clear HBr2 HOr2
  go_upto_region 7 with (fail)
  go_cut [56] (fun v wx => v = .bool b6 ∧ Hid (Below W0.heap.size W0 wx) ∧ Hid (OwnG 3 iv wx W0.heap.size (.slice a5 m5 c5) (iff1 b4 4 ++ iff1 b5 5)))
  case first =>
    obtain ⟨x0, x1, hww⟩ := KX.out w5 HBr.out
    have y0 := kcell x0 0 _ rfl; have y1 := kcell x0 1 _ rfl; have y2 := kcell x0 2 _ rfl; have y3 := kcell x0 3 _ rfl
    have u0 := kcell x1 0 _ rfl; have u1 := kcell x1 1 _ rfl; have u2 := kcell x1 2 _ rfl; have u3 := kcell x1 3 _ rfl
    have HWW := Lib.hid hww
    clear x0 x1 hww
    by_cases h5 : ty = 5
    · subst h5
      by_cases hq : 1 < q3
      · have hqz : (1 : Int) < (q3 : Int) := by omega
        have HE : Hid (b6 = true) := Lib.hid (by rw [← HB6.out]; simp [*])
        go_wp2_with fail
        go_meet
        exact ⟨by rw [HE.out], HBr, HOr⟩
      · have hqz : ¬ (1 : Int) < (q3 : Int) := by omega
        have HE : Hid (b6 = false) := Lib.hid (by rw [← HB6.out]; simp [*])
        go_wp2_with fail
        go_meet
        exact ⟨by rw [HE.out], HBr, HOr⟩
    · have h5b : (ty == 5) = false := by simpa using h5
      by_cases h39 : ty = 39
      · subst h39
        by_cases hq : 1 < q3
        · have hqz : (1 : Int) < (q3 : Int) := by omega
          have HE : Hid (b6 = true) := Lib.hid (by rw [← HB6.out]; simp [*])
          go_wp2_with fail
          go_meet
          exact ⟨by rw [HE.out], HBr, HOr⟩
        · have hqz : ¬ (1 : Int) < (q3 : Int) := by omega
          have HE : Hid (b6 = false) := Lib.hid (by rw [← HB6.out]; simp [*])
          go_wp2_with fail
          go_meet
          exact ⟨by rw [HE.out], HBr, HOr⟩
      · have h39b : (ty == 39) = false := by simpa using h39
        have HE : Hid (b6 = false) := Lib.hid (by rw [← HB6.out]; simp [*])
        go_wp2_with fail
        go_meet
        exact ⟨by rw [HE.out], HBr, HOr⟩
  case rest =>
  rename World => w6
  obtain ⟨rfl, HBr2, HOr2⟩ := hcut
  clear HBr HOr
  have HBr := HBr2; have HOr := HOr2
  clear HBr2 HOr2
  go_upto_if 56 with (fail)
  go_cut [5] (fun v wx => ∃ (a : Option Addr) (m c : Nat), v = .slice a m c ∧ Hid (Below W0.heap.size W0 wx) ∧ Hid (OwnG 3 iv wx W0.heap.size (.slice a m c) (iff1 b4 4 ++ iff1 b5 5 ++ iff1 b6 6)))
  case first =>
    cases b6
    · go_wp2_with fail
      go_meet
      exact ⟨_, _, _, rfl, HBr, Lib.hid (by have h := HOr.out; simpa [iff1] using h)⟩
    · have hz := HBr.out.size
      have HLn : Hid ((iff1 b4 4 ++ iff1 b5 5).length ≤ 5) := Lib.hid (by have := iff1_len b4 4; have := iff1_len b5 5; (try simp only [List.length_append, List.length_nil]); omega)
      go_wp2_with (at_builtin; (refine wpl_append_g w6 rfl (.tmp 57) (.tmp 58) elemInt rfl (fun _ => rfl) W0.heap.size (.slice a5 m5 c5) (iff1 b4 4 ++ iff1 b5 5) rfl HOr.out [.int .i64 6] [6] rfl 1 1 rfl rfl hz (by have := HLn.out; unfold maxLen; simp only [List.length_cons, List.length_nil] at *; omega) (by have := HLn.out; simp only [List.length_cons, List.length_nil] at *; omega) ?_); intro v3 w9 hown3 hg3)
      have HB9' : Hid (Below W0.heap.size W0 w9) := Lib.hid (HBr.out.grown hg3 hz HOr.out.base_le)
      obtain ⟨a9, m9, c9, rfl⟩ : ∃ a m c, v3 = .slice a m c := by obtain ⟨a, c, e⟩ := hown3.shape; exact ⟨_, _, _, e⟩
      have HO9 := Lib.hid hown3
      clear hown3 hg3 hz
      go_meet
      exact ⟨_, _, _, rfl, HB9', Lib.hid (by have h := HO9.out; simpa [iff1] using h)⟩
  case rest =>
  rename World => w7
  obtain ⟨a7, m7, c7, rfl, HBr2, HOr2⟩ := hcut
  clear HBr HOr
  have HBr := HBr2; have HOr := HOr2
  clear HBr2 HOr2
  have HBD := HAD
  go_upto_region 9 with (fail)
  go_cut [7] (fun v wx => v = .bool adr ∧ Hid (Below W0.heap.size W0 wx) ∧ Hid (OwnG 3 iv wx W0.heap.size (.slice a7 m7 c7) (iff1 b4 4 ++ iff1 b5 5 ++ iff1 b6 6)))
  case first =>
    obtain ⟨x0, x1, hww⟩ := KX.out w7 HBr.out
    have y0 := kcell x0 0 _ rfl; have y1 := kcell x0 1 _ rfl; have y2 := kcell x0 2 _ rfl; have y3 := kcell x0 3 _ rfl
    have u0 := kcell x1 0 _ rfl; have u1 := kcell x1 1 _ rfl; have u2 := kcell x1 2 _ rfl; have u3 := kcell x1 3 _ rfl
    have HWW := Lib.hid hww
    clear x0 x1 hww
    by_cases h1 : ty = 1
    · subst h1
      have HE : Hid (adr = true) := Lib.hid (by rw [← HAD.out]; simp [*])
      go_wp2_with fail
      go_meet
      exact ⟨by rw [HE.out], HBr, HOr⟩
    · have h1b : (ty == 1) = false := by simpa using h1
      by_cases h28 : ty = 28
      · subst h28
        have HE : Hid (adr = true) := Lib.hid (by rw [← HAD.out]; simp [*])
        go_wp2_with fail
        go_meet
        exact ⟨by rw [HE.out], HBr, HOr⟩
      · have h28b : (ty == 28) = false := by simpa using h28
        have HE : Hid (adr = false) := Lib.hid (by rw [← HAD.out]; simp [*])
        go_wp2_with fail
        go_meet
        exact ⟨by rw [HE.out], HBr, HOr⟩
  case rest =>
  rename World => w8
  obtain ⟨rfl, HBr2, HOr2⟩ := hcut
  clear HBr HOr
  have HBr := HBr2; have HOr := HOr2
  clear HBr2 HOr2
  go_upto_region 10 with (fail)
  go_cut [86] (fun v wx => v = .bool b7 ∧ Hid (Below W0.heap.size W0 wx) ∧ Hid (OwnG 3 iv wx W0.heap.size (.slice a7 m7 c7) (iff1 b4 4 ++ iff1 b5 5 ++ iff1 b6 6)))
  case first =>
    obtain ⟨x0, x1, hww⟩ := KX.out w8 HBr.out
    have y0 := kcell x0 0 _ rfl; have y1 := kcell x0 1 _ rfl; have y2 := kcell x0 2 _ rfl; have y3 := kcell x0 3 _ rfl
    have u0 := kcell x1 0 _ rfl; have u1 := kcell x1 1 _ rfl; have u2 := kcell x1 2 _ rfl; have u3 := kcell x1 3 _ rfl
    have HWW := Lib.hid hww
    clear x0 x1 hww
    by_cases h2 : wh = 2
    · subst h2
      cases adr
      · by_cases t2 : ty = 2
        · subst t2
          have HE : Hid (b7 = false) := Lib.hid (by rw [← HB7.out]; simp [*])
          go_wp2_with fail
          go_meet
          exact ⟨by rw [HE.out], HBr, HOr⟩
        · have t2b : (ty == 2) = false := by simpa using t2
          have HE : Hid (b7 = true) := Lib.hid (by rw [← HB7.out]; simp [*])
          go_wp2_with fail
          go_meet
          exact ⟨by rw [HE.out], HBr, HOr⟩
      · have HE : Hid (b7 = false) := Lib.hid (by rw [← HB7.out]; simp [*])
        go_wp2_with fail
        go_meet
        exact ⟨by rw [HE.out], HBr, HOr⟩
    · have h2b : (wh == 2) = false := by simpa using h2
      by_cases h3 : wh = 3
      · subst h3
        cases adr
        · have HE : Hid (b7 = true) := Lib.hid (by rw [← HB7.out]; simp [*])
          go_wp2_with fail
          go_meet
          exact ⟨by rw [HE.out], HBr, HOr⟩
        · have HE : Hid (b7 = false) := Lib.hid (by rw [← HB7.out]; simp [*])
          go_wp2_with fail
          go_meet
          exact ⟨by rw [HE.out], HBr, HOr⟩
      · have h3b : (wh == 3) = false := by simpa using h3
        have HE : Hid (b7 = false) := Lib.hid (by rw [← HB7.out]; simp [*])
        go_wp2_with fail
        go_meet
        exact ⟨by rw [HE.out], HBr, HOr⟩
  case rest =>
  rename World => w9
  obtain ⟨rfl, HBr2, HOr2⟩ := hcut
  clear HBr HOr
  have HBr := HBr2; have HOr := HOr2
  clear HBr2 HOr2
  go_upto_if 86 with (fail)
  go_cut [5] (fun v wx => ∃ (a : Option Addr) (m c : Nat), v = .slice a m c ∧ Hid (Below W0.heap.size W0 wx) ∧ Hid (OwnG 3 iv wx W0.heap.size (.slice a m c) (iff1 b4 4 ++ iff1 b5 5 ++ iff1 b6 6 ++ iff1 b7 7)))
  case first =>
    cases b7
    · go_wp2_with fail
      go_meet
      exact ⟨_, _, _, rfl, HBr, Lib.hid (by have h := HOr.out; simpa [iff1] using h)⟩
    · have hz := HBr.out.size
      have HLn : Hid ((iff1 b4 4 ++ iff1 b5 5 ++ iff1 b6 6).length ≤ 5) := Lib.hid (by have := iff1_len b4 4; have := iff1_len b5 5; have := iff1_len b6 6; (try simp only [List.length_append, List.length_nil]); omega)
      go_wp2_with (at_builtin; (refine wpl_append_g w9 rfl (.tmp 87) (.tmp 88) elemInt rfl (fun _ => rfl) W0.heap.size (.slice a7 m7 c7) (iff1 b4 4 ++ iff1 b5 5 ++ iff1 b6 6) rfl HOr.out [.int .i64 7] [7] rfl 1 1 rfl rfl hz (by have := HLn.out; unfold maxLen; simp only [List.length_cons, List.length_nil] at *; omega) (by have := HLn.out; simp only [List.length_cons, List.length_nil] at *; omega) ?_); intro v3 w9 hown3 hg3)
      have HB9' : Hid (Below W0.heap.size W0 w9) := Lib.hid (HBr.out.grown hg3 hz HOr.out.base_le)
      obtain ⟨a9, m9, c9, rfl⟩ : ∃ a m c, v3 = .slice a m c := by obtain ⟨a, c, e⟩ := hown3.shape; exact ⟨_, _, _, e⟩
      have HO9 := Lib.hid hown3
      clear hown3 hg3 hz
      go_meet
      exact ⟨_, _, _, rfl, HB9', Lib.hid (by have h := HO9.out; simpa [iff1] using h)⟩
  case rest =>
  rename World => w10
  obtain ⟨a10, m10, c10, rfl, HBr2, HOr2⟩ := hcut
  clear HBr HOr
  have HBr := HBr2; have HOr := HOr2
  clear HBr2 HOr2
  go_upto_region 12 with (fail)
  go_cut [97] (fun v wx => v = .bool b8 ∧ Hid (Below W0.heap.size W0 wx) ∧ Hid (OwnG 3 iv wx W0.heap.size (.slice a10 m10 c10) (iff1 b4 4 ++ iff1 b5 5 ++ iff1 b6 6 ++ iff1 b7 7)))
  case first =>
    obtain ⟨x0, x1, hww⟩ := KX.out w10 HBr.out
    have y0 := kcell x0 0 _ rfl; have y1 := kcell x0 1 _ rfl; have y2 := kcell x0 2 _ rfl; have y3 := kcell x0 3 _ rfl
    have u0 := kcell x1 0 _ rfl; have u1 := kcell x1 1 _ rfl; have u2 := kcell x1 2 _ rfl; have u3 := kcell x1 3 _ rfl
    have HWW := Lib.hid hww
    clear x0 x1 hww
    by_cases h1 : wh = 1
    · subst h1
      cases cov
      · have HE : Hid (b8 = false) := Lib.hid (by rw [← HB8.out]; simp [*])
        have hc := HCV.out _ HWW.out
        go_wp2_with fail
        refine hc.mono ?_
        rintro e w9 ⟨rfl, hb9⟩
        have HB9' : Hid (Below W0.heap.size W0 w9) := Lib.hid (HBr.out.trans (hb9.mono HBr.out.size))
        have HO9 : Hid (OwnG 3 iv w9 W0.heap.size (.slice a10 m10 c10) (iff1 b4 4 ++ iff1 b5 5 ++ iff1 b6 6 ++ iff1 b7 7)) := Lib.hid (OwnG.below HOr.out hb9)
        clear hc hb9 y0 y1 y2 y3 u0 u1 u2 u3
        go_wp2_with fail
        go_meet
        exact ⟨by rw [HE.out], HB9', HO9⟩
      · have HE : Hid (b8 = true) := Lib.hid (by rw [← HB8.out]; simp [*])
        have hc := HCV.out _ HWW.out
        go_wp2_with fail
        refine hc.mono ?_
        rintro e w9 ⟨rfl, hb9⟩
        have HB9' : Hid (Below W0.heap.size W0 w9) := Lib.hid (HBr.out.trans (hb9.mono HBr.out.size))
        have HO9 : Hid (OwnG 3 iv w9 W0.heap.size (.slice a10 m10 c10) (iff1 b4 4 ++ iff1 b5 5 ++ iff1 b6 6 ++ iff1 b7 7)) := Lib.hid (OwnG.below HOr.out hb9)
        clear hc hb9 y0 y1 y2 y3 u0 u1 u2 u3
        go_wp2_with fail
        go_meet
        exact ⟨by rw [HE.out], HB9', HO9⟩
    · have h1b : (wh == 1) = false := by simpa using h1
      have HE : Hid (b8 = false) := Lib.hid (by rw [← HB8.out]; simp [*])
      go_wp2_with fail
      go_meet
      exact ⟨by rw [HE.out], HBr, HOr⟩
  case rest =>
  rename World => w11
  obtain ⟨rfl, HBr2, HOr2⟩ := hcut
  clear HBr HOr
  have HBr := HBr2; have HOr := HOr2
  clear HBr2 HOr2
  go_upto_if 97 with (fail)
  go_cut [5] (fun v wx => ∃ (a : Option Addr) (m c : Nat), v = .slice a m c ∧ Hid (Below W0.heap.size W0 wx) ∧ Hid (OwnG 3 iv wx W0.heap.size (.slice a m c) (iff1 b4 4 ++ iff1 b5 5 ++ iff1 b6 6 ++ iff1 b7 7 ++ iff1 b8 8)))
  case first =>
    cases b8
    · go_wp2_with fail
      go_meet
      exact ⟨_, _, _, rfl, HBr, Lib.hid (by have h := HOr.out; simpa [iff1] using h)⟩
    · have hz := HBr.out.size
      have HLn : Hid ((iff1 b4 4 ++ iff1 b5 5 ++ iff1 b6 6 ++ iff1 b7 7).length ≤ 5) := Lib.hid (by have := iff1_len b4 4; have := iff1_len b5 5; have := iff1_len b6 6; have := iff1_len b7 7; (try simp only [List.length_append, List.length_nil]); omega)
      go_wp2_with (at_builtin; (refine wpl_append_g w11 rfl (.tmp 98) (.tmp 99) elemInt rfl (fun _ => rfl) W0.heap.size (.slice a10 m10 c10) (iff1 b4 4 ++ iff1 b5 5 ++ iff1 b6 6 ++ iff1 b7 7) rfl HOr.out [.int .i64 8] [8] rfl 1 1 rfl rfl hz (by have := HLn.out; unfold maxLen; simp only [List.length_cons, List.length_nil] at *; omega) (by have := HLn.out; simp only [List.length_cons, List.length_nil] at *; omega) ?_); intro v3 w9 hown3 hg3)
      have HB9' : Hid (Below W0.heap.size W0 w9) := Lib.hid (HBr.out.grown hg3 hz HOr.out.base_le)
      obtain ⟨a9, m9, c9, rfl⟩ : ∃ a m c, v3 = .slice a m c := by obtain ⟨a, c, e⟩ := hown3.shape; exact ⟨_, _, _, e⟩
      have HO9 := Lib.hid hown3
      clear hown3 hg3 hz
      go_meet
      exact ⟨_, _, _, rfl, HB9', Lib.hid (by have h := HO9.out; simpa [iff1] using h)⟩
  case rest =>
  rename World => w12
  obtain ⟨a12, m12, c12, rfl, HBr2, HOr2⟩ := hcut
  clear HBr HOr
  have HBr := HBr2; have HOr := HOr2
  clear HBr2 HOr2
  go_upto_region 14 with (fail)
  go_cut [108] (fun v wx => v = .bool b9 ∧ Hid (Below W0.heap.size W0 wx) ∧ Hid (OwnG 3 iv wx W0.heap.size (.slice a12 m12 c12) (iff1 b4 4 ++ iff1 b5 5 ++ iff1 b6 6 ++ iff1 b7 7 ++ iff1 b8 8)))
  case first =>
    obtain ⟨x0, x1, hww⟩ := KX.out w12 HBr.out
    have y0 := kcell x0 0 _ rfl; have y1 := kcell x0 1 _ rfl; have y2 := kcell x0 2 _ rfl; have y3 := kcell x0 3 _ rfl
    have u0 := kcell x1 0 _ rfl; have u1 := kcell x1 1 _ rfl; have u2 := kcell x1 2 _ rfl; have u3 := kcell x1 3 _ rfl
    have HWW := Lib.hid hww
    clear x0 x1 hww
    by_cases h2 : ty = 2
    · subst h2
      cases wi
      · have HE : Hid (b9 = false) := Lib.hid (by rw [← HB9.out]; simp [*])
        have hc := HWI.out _ HWW.out
        go_wp2_with fail
        refine hc.mono ?_
        rintro e w9 ⟨rfl, hb9⟩
        have HB9' : Hid (Below W0.heap.size W0 w9) := Lib.hid (HBr.out.trans (hb9.mono HBr.out.size))
        have HO9 : Hid (OwnG 3 iv w9 W0.heap.size (.slice a12 m12 c12) (iff1 b4 4 ++ iff1 b5 5 ++ iff1 b6 6 ++ iff1 b7 7 ++ iff1 b8 8)) := Lib.hid (OwnG.below HOr.out hb9)
        clear hc hb9 y0 y1 y2 y3 u0 u1 u2 u3
        go_wp2_with fail
        go_meet
        exact ⟨by rw [HE.out], HB9', HO9⟩
      · have HE : Hid (b9 = true) := Lib.hid (by rw [← HB9.out]; simp [*])
        have hc := HWI.out _ HWW.out
        go_wp2_with fail
        refine hc.mono ?_
        rintro e w9 ⟨rfl, hb9⟩
        have HB9' : Hid (Below W0.heap.size W0 w9) := Lib.hid (HBr.out.trans (hb9.mono HBr.out.size))
        have HO9 : Hid (OwnG 3 iv w9 W0.heap.size (.slice a12 m12 c12) (iff1 b4 4 ++ iff1 b5 5 ++ iff1 b6 6 ++ iff1 b7 7 ++ iff1 b8 8)) := Lib.hid (OwnG.below HOr.out hb9)
        clear hc hb9 y0 y1 y2 y3 u0 u1 u2 u3
        go_wp2_with fail
        go_meet
        exact ⟨by rw [HE.out], HB9', HO9⟩
    · have h2b : (ty == 2) = false := by simpa using h2
      have HE : Hid (b9 = false) := Lib.hid (by rw [← HB9.out]; simp [*])
      go_wp2_with fail
      go_meet
      exact ⟨by rw [HE.out], HBr, HOr⟩
  case rest =>
  rename World => w13
  obtain ⟨rfl, HBr2, HOr2⟩ := hcut
  clear HBr HOr
  have HBr := HBr2; have HOr := HOr2
  clear HBr2 HOr2
  go_upto_if 108 with (fail)
  go_cut [5] (fun v wx => ∃ (a : Option Addr) (m c : Nat), v = .slice a m c ∧ Hid (Below W0.heap.size W0 wx) ∧ Hid (OwnG 3 iv wx W0.heap.size (.slice a m c) (iff1 b4 4 ++ iff1 b5 5 ++ iff1 b6 6 ++ iff1 b7 7 ++ iff1 b8 8 ++ iff1 b9 9)))
  case first =>
    cases b9
    · go_wp2_with fail
      go_meet
      exact ⟨_, _, _, rfl, HBr, Lib.hid (by have h := HOr.out; simpa [iff1] using h)⟩
    · have hz := HBr.out.size
      have HLn : Hid ((iff1 b4 4 ++ iff1 b5 5 ++ iff1 b6 6 ++ iff1 b7 7 ++ iff1 b8 8).length ≤ 5) := Lib.hid (by have := iff1_len b4 4; have := iff1_len b5 5; have := iff1_len b6 6; have := iff1_len b7 7; have := iff1_len b8 8; (try simp only [List.length_append, List.length_nil]); omega)
      go_wp2_with (at_builtin; (refine wpl_append_g w13 rfl (.tmp 109) (.tmp 110) elemInt rfl (fun _ => rfl) W0.heap.size (.slice a12 m12 c12) (iff1 b4 4 ++ iff1 b5 5 ++ iff1 b6 6 ++ iff1 b7 7 ++ iff1 b8 8) rfl HOr.out [.int .i64 9] [9] rfl 1 1 rfl rfl hz (by have := HLn.out; unfold maxLen; simp only [List.length_cons, List.length_nil] at *; omega) (by have := HLn.out; simp only [List.length_cons, List.length_nil] at *; omega) ?_); intro v3 w9 hown3 hg3)
      have HB9' : Hid (Below W0.heap.size W0 w9) := Lib.hid (HBr.out.grown hg3 hz HOr.out.base_le)
      obtain ⟨a9, m9, c9, rfl⟩ : ∃ a m c, v3 = .slice a m c := by obtain ⟨a, c, e⟩ := hown3.shape; exact ⟨_, _, _, e⟩
      have HO9 := Lib.hid hown3
      clear hown3 hg3 hz
      go_meet
      exact ⟨_, _, _, rfl, HB9', Lib.hid (by have h := HO9.out; simpa [iff1] using h)⟩
  case rest =>
  rename World => w14
  obtain ⟨a14, m14, c14, rfl, HBr2, HOr2⟩ := hcut
  clear HBr HOr
  have HBr := HBr2; have HOr := HOr2
  clear HBr2 HOr2
  go_wp2_with fail
  go_ret
  have h := HOr.out.weaken HB0.out.size
  simp only [List.append_assoc] at h
  rw [← HK.out] at h
  exact ⟨.slice a14 m14 c14, rfl, h, HB0.out.trans (HBr.out.mono HB0.out.size)⟩
end Go.Proofs.Ytckammgnmgkieaa

