/-
  rset.Targets.
-/
import Derived.Test.YtckammgnmgkieaaGreatMQ17
namespace Go.Proofs.YtckammgnmgkieaaGreat
set_option maxRecDepth 20000
open Go.RowKit Go.Shelf
set_option maxRecDepth 20000
set_option linter.unusedVariables false
set_option linter.unusedSimpArgs false

def tgtM (ds : List Dat) : List Nm := ds.filterMap fun d => d.names.head?
def targetsM (t : Int) (ds : List Dat) : List Nm := if t = 2 ∨ t = 5 ∨ t = 12 ∨ t = 39 ∨ t = 15 then tgtM ds else []
theorem tgtM_take {ds : List Dat} {k : Nat} (h : k < ds.length) : tgtM (ds.take (k + 1)) = tgtM (ds.take k) ++ ds[k].names.head?.toList := by
  unfold tgtM
  rw [List.take_succ_eq_append_getElem h, List.filterMap_append]
  cases e : ds[k].names with
  | nil => simp [e]
  | cons x r => simp [e]
theorem tgtM_len (ds : List Dat) : (tgtM ds).length ≤ ds.length := List.length_filterMap_le _ _
theorem dt_shape2 {W : World} {cs : List Value} {d : Dat} (h : DatAt W (.agg cs.toArray) d) : ∃ (an : Option Addr) (cn : Nat) (x4 x5 x6 : Option Addr × Nat × Nat) (vs : List Value), cs = [.int .i64 d.ty, .slice an d.names.length cn, .slice x4.1 x4.2.1 x4.2.2, .slice x5.1 x5.2.1 x5.2.2, .slice x6.1 x6.2.1 x6.2.2] ∧ SlAt W (.slice an d.names.length cn) vs ∧ vs.length = d.names.length ∧ d.names.length ≤ cn ∧ ∀ j (h1 : j < vs.length) (h2 : j < d.names.length), NmAt W vs[j] d.names[j] := by
  obtain ⟨un, uu, ut, ur, e, ⟨vs, g1, gl, g5⟩, g2, g3, g4⟩ := h
  have e' : cs = [Value.int .i64 d.ty, un, uu, ut, ur] := by
    have : cs.toArray = #[Value.int .i64 d.ty, un, uu, ut, ur] := by injection e
    exact congrArg Array.toList this
  obtain ⟨a3, c3, rfl, hc3, _⟩ := id g1
  obtain ⟨a4, c4, rfl, _⟩ := g2
  obtain ⟨a5, c5, rfl, _⟩ := nmAt_sl.1 g3
  obtain ⟨a6, c6, rfl, _⟩ := g4
  rw [gl] at e' g1 hc3
  exact ⟨a3, c3, (a4, _, c4), (a5, _, c5), (a6, _, c6), vs, e', g1, gl, hc3, fun j h1 _ => g5 j h1⟩
def TgtPost (w : World) (l : List Nm) (e : Ending) (w' : World) : Prop := ∃ v, e = .returned v ∧ OwnNms w' w.heap.size v l ∧ Below w.heap.size w w'
set_option maxRecDepth 100000 in
set_option maxHeartbeats 16000000 in
theorem rset_Targets (a0 : Option Addr) (n0 c0 : Nat) (ty t1 : Int) (v1 : Option Addr) (n c : Nat) (css : List (List Value)) (ds : List Dat) (w : World) (hA : SlK w (.slice v1 n c) css) (hR : Dts w css ds) (hOK : ∀ r ∈ ds, DatOK r) (hl : n ≤ 1048576) :
    Calls Tryz.prog 18 #[.agg #[.slice a0 n0 c0, .int .i64 ty, .int .u32 t1, .slice v1 n c]] w (TgtPost w (targetsM ty ds)) := by
  by_cases hty : ty = 2 ∨ ty = 5 ∨ ty = 12 ∨ ty = 39 ∨ ty = 15
  · have HT : Hid (targetsM ty ds = tgtM ds) := Lib.hid (by unfold targetsM; rw [if_pos hty])
    rw [HT.out]
    obtain ⟨hln, hx⟩ : css.length = n ∧ n ≤ c := by
      obtain ⟨a', c', e, h1, _⟩ := id hA
      cases e; exact ⟨rfl, h1⟩
    have HA := Lib.hid hA; have HR := Lib.hid hR; have HOK := Lib.hid hOK; have HLN := Lib.hid hln
    have HDL := Lib.hid (show ds.length = n by rw [← hR.1]; exact hln)
    have HB0 := Lib.hid ((Below.refl w.heap.size w).alloc (Nat.le_refl _) (.cells #[.slice a0 n0 c0, .int .i64 ty, .int .u32 t1, .slice v1 n c] 38))
    clear hA hR hOK hln HT
    rcases hty with rfl | rfl | rfl | rfl | rfl
    all_goals
      go_enter Tryz.func18, Tryz.ntmps18
      go_wp2
      go_loopw [3, 17] (fun v3 vi wr => ∃ (k : Nat) (ga : Option Addr) (gn gc : Nat), v3 = .slice ga gn gc ∧ vi = .int .i64 k ∧ k ≤ n ∧ Hid (OwnNms wr w.heap.size (.slice ga gn gc) (tgtM (ds.take k))) ∧ Hid (Below w.heap.size w wr)) (fun _ vi _ => n - (intOf vi).toNat)
      case atStart => exact ⟨0, none, 0, 0, rfl, rfl, Nat.zero_le _, Lib.hid (OwnNms.nil _ _), HB0⟩
      case round =>
        obtain ⟨k, ga, gn, gc, rfl, rfl, hk, HO, HB⟩ := hrel
        by_cases hlt : k < n
        · have hltz : (k : Int) < (n : Int) := by omega
          have hk1 : k < css.length := by have := HLN.out; omega
          have hk2 : k < ds.length := by have := HDL.out; omega
          obtain ⟨b, off, rfl, hb, hel⟩ := HA.out.elem5 HR.out.ck (by omega)
          have h0 := (HR.out.2 k hk1 hk2).2
          have hok := HOK.out _ (List.getElem_mem hk2)
          have htk := tgtM_take hk2
          obtain ⟨d, hd⟩ : ∃ d, ds[k]'hk2 = d := ⟨_, rfl⟩
          rw [hd] at h0 hok htk
          obtain ⟨an, cn, ⟨p4, q4, r4⟩, ⟨p5, q5, r5⟩, ⟨p6, q6, r6⟩, vs, e0, s1, sl, hcn, s2⟩ := dt_shape2 h0
          simp only at e0
          obtain ⟨c0', c1, c2, c3, c4⟩ := hel k hk1 _ _ _ _ _ e0 wr HB.out
          obtain ⟨nn, hnn⟩ : ∃ m, d.names.length = m := ⟨_, rfl⟩
          rw [hnn] at e0 s1 sl hcn c1
          have HBB := Lib.hid (HB.out.alloc HB.out.size (.cells #[.int .i64 d.ty, .slice an nn cn, .slice p4 q4 r4, .slice p5 q5 r5, .slice p6 q6 r6] 101))
          have HTK := Lib.hid htk
          by_cases hz : nn = 0
          · have hzz : ¬ (0 : Int) < (nn : Int) := by omega
            have hzn : ¬ 0 < nn := by omega
            have HE : Hid (tgtM (ds.take (k + 1)) = tgtM (ds.take k)) := Lib.hid (by
              rw [HTK.out, show d.names = [] from List.eq_nil_of_length_eq_zero (by omega)]; simp)
            have HO2 : Hid (OwnNms (wr.alloc (.cells #[.int .i64 d.ty, .slice an nn cn, .slice p4 q4 r4, .slice p5 q5 r5, .slice p6 q6 r6] 101)) w.heap.size (.slice ga gn gc) (tgtM (ds.take (k + 1)))) := Lib.hid (by rw [HE.out]; exact HO.out.below ((Below.refl _ wr).alloc (Nat.le_refl _) _))
            clear h0 hok htk hd e0 s1 sl s2 hk1 hk2 hel hz HO HB HTK hnn hcn
            go_wp2
            go_roundw
            case measure => simp [intOf]; omega
            case rel => exact ⟨k + 1, ga, gn, gc, rfl, by go_num, by omega, HO2, HBB⟩
          · have hzz : (0 : Int) < (nn : Int) := by omega
            have hzn : 0 < nn := by omega
            have hj0 : 0 < vs.length := by omega
            obtain ⟨b2, off2, rfl, hb2, hcell⟩ := s1.cell (HBB.out.trans (Below.refl _ _)) 0 hj0
            have hnm := s2 0 hj0 (by omega)
            have hnmr := hnm.below HBB.out
            obtain ⟨nm, hnm1⟩ : ∃ nm, d.names[0]'(by omega) = nm := ⟨_, rfl⟩
            have hokn : NmOK nm := by rw [← hnm1]; exact hok.2.2.1 _ (List.getElem_mem _)
            have HHD : Hid (d.names.head?.toList = [nm]) := Lib.hid (by
              rw [← hnm1, List.head?_eq_getElem?, List.getElem?_eq_getElem (by omega)]; rfl)
            rw [hnm1] at hnm hnmr
            obtain ⟨av, cv, ev, -⟩ := nmAt_sl.1 hnm
            rw [ev] at hcell hnmr
            obtain ⟨m, hm⟩ : ∃ m, (List.map strV nm).length = m := ⟨_, rfl⟩
            rw [hm] at hcell hnmr
            have hc0 := clone_Name (.slice av m cv) nm _ hnmr.1 hnmr.2 (by have := hokn.1; omega)
            rw [Nat.add_zero] at hcell
            have HGL := Lib.hid (show (tgtM (ds.take k)).length ≤ 1048576 by have := tgtM_len (ds.take k); rw [List.length_take] at this; omega)
            have HO1 := Lib.hid (HO.out.below ((Below.refl _ wr).alloc (Nat.le_refl _) (.cells #[.int .i64 d.ty, .slice (some ⟨b2, off2, none⟩) nn cn, .slice p4 q4 r4, .slice p5 q5 r5, .slice p6 q6 r6] 101)))
            clear h0 hok htk hd e0 s1 sl s2 hk1 hk2 hel hz HO HB hnm hnmr hokn ev hm hnm1 hnn hj0
            go_wp2_with fail
            refine hc0.mono ?_
            rintro e w2 ⟨v', rfl, hown, hbb2⟩
            have HB2 := Lib.hid (HBB.out.trans (hbb2.mono HBB.out.size))
            obtain ⟨a2, c2', rfl⟩ := hown.shape
            obtain ⟨m2, hm2⟩ : ∃ m, nm.length = m := ⟨_, rfl⟩
            obtain ⟨vs', hv1, hv2, hv3⟩ := HO1.out.below hbb2
            have hown' : OwnG 9 strV w2 w.heap.size (slEnc (a2, m2, c2')) nm := by rw [← hm2]; exact hown.weaken HBB.out.size
            obtain ⟨ga', gc', eg⟩ := hv1.shape
            have HV := Lib.hid (And.intro hv2 hv3)
            have HOWN := Lib.hid hown'
            have HC := Lib.hid (show [Value.slice a2 m2 c2'] = [((a2, m2, c2') : SlV)].map slEnc from rfl)
            have hz2 := HB2.out.size
            have HVK := Lib.hid (show vs'.length ≤ 1048576 by rw [hv2]; exact HGL.out)
            rw [hm2]
            clear hv2 hv3 hown hown' hm2 hbb2 hc0 hcell eg
            go_wp2_with (at_builtin; refine wpl_append_g w2 rfl (.tmp 25) (.tmp 31) elemNames rfl slEnc_one w.heap.size (.slice ga gn gc) vs' rfl hv1 [.slice a2 m2 c2'] [((a2, m2, c2') : SlV)] HC.out 1 1 rfl rfl hz2 (by have := HVK.out; unfold maxLen; simp; omega) (by have := HVK.out; simp; omega) ?_; intro v3 w3 hown3 hg3)
            have HO3 : Hid (OwnNms w3 w.heap.size v3 (tgtM (ds.take (k + 1)))) := by
              rw [HTK.out, HHD.out]
              exact Lib.hid (OwnNms.snoc hv1 HV.out.1 HV.out.2 HOWN.out hown3 hg3)
            have HB3 := Lib.hid (HB2.out.grown hg3 hz2 hv1.base_le)
            obtain ⟨a3, c3', rfl⟩ := hown3.shape
            clear hown3 hg3 hv1
            go_roundw
            case measure => simp [intOf]; omega
            case rel => exact ⟨k + 1, a3, _, c3', rfl, by go_num, by omega, HO3, HB3⟩
        · obtain rfl : k = n := by omega
          have h := HO.out
          rw [List.take_of_length_le (by have := HDL.out; omega)] at h
          have HH := Lib.hid h
          clear h HO
          go_wp2
          go_ret
          exact ⟨_, rfl, HH.out, HB.out⟩
  · have HT : Hid (targetsM ty ds = []) := Lib.hid (by unfold targetsM; rw [if_neg hty])
    rw [HT.out]
    have h1 : (ty == 2) = false := by simp; omega
    have h2 : (ty == 5) = false := by simp; omega
    have h3 : (ty == 12) = false := by simp; omega
    have h4 : (ty == 39) = false := by simp; omega
    have h5 : (ty == 15) = false := by simp; omega
    have HB0 := Lib.hid ((Below.refl w.heap.size w).alloc (Nat.le_refl _) (.cells #[.slice a0 n0 c0, .int .i64 ty, .int .u32 t1, .slice v1 n c] 38))
    clear hty hA hR hOK HT
    go_enter Tryz.func18, Tryz.ntmps18
    go_wp2
    go_ret
    exact ⟨_, rfl, OwnNms.nil _ _, HB0.out⟩
end Go.Proofs.YtckammgnmgkieaaGreat

