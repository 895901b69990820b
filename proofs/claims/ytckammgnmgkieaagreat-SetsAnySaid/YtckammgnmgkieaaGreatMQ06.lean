/-
  The document's Canon, its records said of a first world. (Written by wip/tools/gencanw.py.)
-/
import Derived.Test.YtckammgnmgkieaaGreatMQ28
import Derived.Test.YtckammgnmgkieaaGreatMQ05
namespace Go.Proofs.YtckammgnmgkieaaGreat
open Go.RowKit Go.Shelf
set_option maxRecDepth 20000
set_option linter.unusedVariables false
set_option linter.unusedSimpArgs false
def CanWPost (w0 w : World) (l : List Rc) (e : Ending) (w' : World) : Prop := ∃ v' csd, e = .returned v' ∧ OwnC 7 109 w' w.heap.size v' csd ∧ Rcs w0 csd (canonM l) ∧ Below w.heap.size w w'
set_option maxRecDepth 100000 in
set_option maxHeartbeats 32000000 in
theorem ref_CanonW (v : Value) (css : List (List Value)) (l : List Rc) (w0 w : World) (hA : SlK w v css) (hR : Rcs w0 css l) (hb0 : Below w0.heap.size w0 w) (hOK : ∀ r ∈ l, RcOK r) (hl : css.length ≤ 1000000) :
    Calls Tryz.prog 63 #[v] w (CanWPost w0 w l) := by
  obtain ⟨a, c, rfl, hc1, -, -⟩ := id hA
  obtain ⟨n, hn⟩ : ∃ n, css.length = n := ⟨_, rfl⟩
  rw [hn] at hA hc1 hl ⊢
  have HB00 := Lib.hid hb0; have HA := Lib.hid hA; have HR := Lib.hid hR; have HOK := Lib.hid hOK; have HLN := Lib.hid hn
  have HLL := Lib.hid (show l.length = n by rw [← hn]; exact hR.1.symm)
  clear hA hR hOK hn hb0
  go_enter Tryz.func63, Tryz.ntmps63
  go_wp2
  go_loopg [3, 4] n (fun g1 vo vi wr => ∃ (i : Nat) (ga : Option Addr) (m gc : Nat) (csd : List (List Value)) (C : List Rc), vo = .slice ga m gc ∧ vi = .int .i64 i ∧ i ≤ n ∧ n - i ≤ g1 ∧ m ≤ i ∧ Hid (csd.length = m ∧ C = canonM (l.take i)) ∧ Hid (OwnC 7 109 wr w.heap.size (.slice ga m gc) csd) ∧ Hid (Rcs w0 csd C) ∧ Hid (Below w.heap.size w wr))
  case atStart => exact ⟨0, none, 0, 0, [], [], rfl, rfl, Nat.zero_le _, by omega, Nat.le_refl _, Lib.hid ⟨rfl, rfl⟩, Lib.hid (OwnK.nil _ _), Lib.hid ⟨rfl, fun i h => absurd h (by simp)⟩, Lib.hid (Below.refl _ _)⟩
  case round =>
    obtain ⟨i, ga, m, gc, csd, C, rfl, rfl, hi, hg1, hmi, HL, HO, HRC, HB⟩ := hrel
    by_cases hlt : i < n
    · have hltz : (i : Int) < (n : Int) := by omega
      have hi1 : i < css.length := by have := HLN.out; omega
      have hi2 : i < l.length := by have := HLL.out; omega
      obtain ⟨b, off, rfl, hb, hel⟩ := HA.out.elem HR.out.ck (by omega)
      have h0 := HR.out.2 i hi1 hi2
      have hokx := HOK.out _ (List.getElem_mem hi2)
      have hst := canonM_take hi2
      have hokc := canonM_ok (l.take i) (fun r hr => HOK.out r (List.mem_of_mem_take hr))
      rw [← HL.out.2] at hst hokc
      obtain ⟨x, hx⟩ : ∃ r, l[i]'hi2 = r := ⟨_, rfl⟩
      rw [hx] at h0 hokx hst
      obtain ⟨⟨p0, q0, r0⟩, ⟨p3, q3, r3⟩, ⟨p4, q4, r4⟩, ⟨p5, q5, r5⟩, ⟨p6, q6, r6⟩, e0⟩ := h0.shape
      simp only at e0
      have HE := Lib.hid (fun W hb => hel i hi1 _ _ _ _ _ _ _ e0 W hb)
      rw [e0] at h0
      have HX0 := Lib.hid h0; have HOKX := Lib.hid hokx; have HST := Lib.hid hst; have HOKC := Lib.hid hokc
      have HLC := Lib.hid (show C.length = m by have := HRC.out.1; have := HL.out.1; omega)
      clear h0 hokx hst hokc hx e0 hel hi1 hi2
      go_wp2_with fail
      go_loopg [5] m (fun g2 vk wq => ∃ (wr2 : World) (k : Nat), wr2 = wq ∧ vk = .int .i64 k ∧ k ≤ m ∧ m - k ≤ g2 ∧ Hid (∀ j (h : j < C.length), j < k → compareR C[j] x < 0) ∧ Hid (OwnC 7 109 wr2 w.heap.size (.slice ga m gc) csd) ∧ Hid (Below w.heap.size w wr2))
      case atStart => exact ⟨_, 0, rfl, rfl, Nat.zero_le _, by omega, Lib.hid (fun j h hj => absurd hj (Nat.not_lt_zero _)), HO, HB⟩
      case round =>
        obtain ⟨wr2, k, rfl, rfl, hk, hg2, HLS, HO2, HB2⟩ := hrel
        have hcl : (fun W => Below wr2.heap.size wr2 W) wr2.drew := ⟨rfl, rfl, rfl, Nat.le_refl _, fun _ _ => rfl⟩
        have hne : Nonempty (WIn (fun W => Below wr2.heap.size wr2 W)) := ⟨⟨_, hcl⟩⟩
        by_cases hkm : k < m
        · have hkz : (k : Int) < (m : Int) := by omega
          have hkc : k < csd.length := by have := HL.out.1; omega
          have hkC : k < C.length := by have := HLC.out; omega
          rcases OwnC.some' HO2.out with ⟨-, e, -, -⟩ | ⟨g, cur, rfl, hgb, hgw, hmc, -⟩
          · omega
          have hsl : SlK wr2 (.slice (some ⟨g, 0, none⟩) m gc) csd := SlK.of_own HO2.out HRC.out.ck
          obtain ⟨g', o', eg, hg', heo⟩ := hsl.elem HRC.out.ck (by omega)
          cases eg
          have h1 := HRC.out.2 k hkc hkC
          have hoky := HOKC.out _ (List.getElem_mem hkC)
          obtain ⟨y, hy⟩ : ∃ r, C[k]'hkC = r := ⟨_, rfl⟩
          have HY := Lib.hid hy
          rw [hy] at h1 hoky
          obtain ⟨⟨p0', q0', r0'⟩, ⟨p3', q3', r3'⟩, ⟨p4', q4', r4'⟩, ⟨p5', q5', r5'⟩, ⟨p6', q6', r6'⟩, e1⟩ := h1.shape
          simp only at e1
          have HYC := Lib.hid e1
          rw [e1] at h1
          have HY1 := Lib.hid h1; have HOKY := Lib.hid hoky
          have f0 := fun p : WIn (fun W => Below wr2.heap.size wr2 W) => HE.out p.w (HB2.out.trans (p.ok.mono HB2.out.size))
          have f1 := fun p : WIn (fun W => Below wr2.heap.size wr2 W) => heo k hkc _ _ _ _ _ _ _ e1 p.w p.ok
          simp only [Nat.zero_add] at f1
          have g0 := fun p => (f0 p).1; have g1' := fun p => (f0 p).2.1; have g2' := fun p => (f0 p).2.2.1; have g3 := fun p => (f0 p).2.2.2.1; have g4 := fun p => (f0 p).2.2.2.2.1; have g5 := fun p => (f0 p).2.2.2.2.2.1; have g6 := fun p => (f0 p).2.2.2.2.2.2
          have j0 := fun p => (f1 p).1; have j1 := fun p => (f1 p).2.1; have j2 := fun p => (f1 p).2.2.1; have j3 := fun p => (f1 p).2.2.2.1; have j4 := fun p => (f1 p).2.2.2.2.1; have j5 := fun p => (f1 p).2.2.2.2.2.1; have j6 := fun p => (f1 p).2.2.2.2.2.2
          have hcg := fun p : WIn (fun W => Below wr2.heap.size wr2 W) => Calls.cls (C := (fun W => Below wr2.heap.size wr2 W)) ((ref_CompareRec _ _ _ _ p.w (h1.below (HB00.out.trans ((HB2.out.trans (p.ok.mono HB2.out.size)).mono HB00.out.size))) (HX0.out.below (HB00.out.trans ((HB2.out.trans (p.ok.mono HB2.out.size)).mono HB00.out.size))) hoky HOKX.out).mono fun _ _ ⟨hq, hb⟩ => ⟨hq, p.ok.trans (hb.mono p.ok.size)⟩)
          have hcs := fun p : WIn (fun W => Below wr2.heap.size wr2 W) => Calls.cls (C := (fun W => Below wr2.heap.size wr2 W)) ((ref_SameRec _ _ _ _ p.w (h1.below (HB00.out.trans ((HB2.out.trans (p.ok.mono HB2.out.size)).mono HB00.out.size))) (HX0.out.below (HB00.out.trans ((HB2.out.trans (p.ok.mono HB2.out.size)).mono HB00.out.size))) hoky HOKX.out).mono fun _ _ ⟨hq, hb⟩ => ⟨hq, p.ok.trans (hb.mono p.ok.size)⟩)
          obtain ⟨cv, hcv⟩ : ∃ s, compareR y x = s := ⟨_, rfl⟩
          obtain ⟨sv, hsv⟩ : ∃ s, sameR y x = s := ⟨_, rfl⟩
          rw [hcv] at hcg
          rw [hsv] at hcs
          have HCV := Lib.hid hcv
          have HSV := Lib.hid (show sv = (cv == 0) by rw [← hsv, ← hcv]; rfl)
          have HGW := Lib.hid (show w.heap.size ≤ g ∧ wr2.heap[g]? = some (.cells cur 109) from ⟨hgb, hgw⟩)
          obtain ⟨ty, hty⟩ : ∃ t, y.ttl = t := ⟨_, rfl⟩
          rw [hty] at j1 hcg hcs HYC HY1
          have HTY := Lib.hid hty
          clear h1 hoky hy e1 f0 f1 hsl heo hg' hgb hgw hcv hsv hty
          by_cases hcmp : cv < 0
          · go_wp2_with fail
            refine wp_region_cls (fun W => Below wr2.heap.size wr2 W) follows_mixed (by kernel_rfl) hcl ?_
            repeat (go_big_quiet_step (exact hcg _))
            refine wpQuiet_nil ?_
            rintro _ ⟨p, rfl⟩
            have HP := Lib.hid p.ok
            clear g0 g1' g2' g3 g4 g5 g6 j0 j1 j2 j3 j4 j5 j6 hcg hcs
            go_wp2
            go_roundg (m - (k + 1))
            case measure => omega
            case rel => exact ⟨_, k + 1, rfl, by go_num, by omega, by omega, Lib.hid (fun j h hj => by
                by_cases e : j < k
                · exact HLS.out j h e
                · obtain rfl : j = k := by omega
                  rw [HY.out, HCV.out]; exact hcmp), Lib.hid (OwnK.below HO2.out HP.out), Lib.hid (HB2.out.trans (HP.out.mono HB2.out.size))⟩
          · go_wp2_with fail
            refine wp_region_cls (fun W => Below wr2.heap.size wr2 W) follows_mixed (by kernel_rfl) hcl ?_
            repeat (go_big_quiet_step (exact hcg _))
            refine wpQuiet_nil ?_
            rintro _ ⟨p, rfl⟩
            have hcl2 : (fun W => Below wr2.heap.size wr2 W) p.w.drew := p.ok.trans ⟨rfl, rfl, rfl, Nat.le_refl _, fun _ _ => rfl⟩
            clear hcg
            by_cases heq : cv = 0
            · have hsv1 : sv = true := by rw [HSV.out, heq]; rfl
              subst hsv1
              go_wp2_with fail
              refine wp_region_cls (fun W => Below wr2.heap.size wr2 W) follows_mixed (by kernel_rfl) hcl2 ?_
              repeat (go_big_quiet_step (exact hcs _))
              refine wpQuiet_nil ?_
              rintro _ ⟨p2, rfl⟩
              have hcl3 : (fun W => Below wr2.heap.size wr2 W) p2.w.drew := p2.ok.trans ⟨rfl, rfl, rfl, Nat.le_refl _, fun _ _ => rfl⟩
              have HHIT := Lib.hid (insR_hit x k C (by have := HLC.out; omega) HLS.out (by rw [HY.out, HCV.out]; exact heq))
              clear hcs
              by_cases hlx : x.ttl < ty
              · have hlxz : (x.ttl : Int) < (ty : Int) := by omega
                go_wp2_with fail
                refine wp_region_cls (fun W => Below wr2.heap.size wr2 W) follows_mixed (by kernel_rfl) hcl3 ?_
                repeat (go_big_quiet_step (fail))
                refine wpQuiet_nil ?_
                rintro _ ⟨p3, rfl⟩
                have HP := Lib.hid p3.ok
                have hkc2 : k < csd.length := by have := HL.out.1; omega
                have hg3 := (HP.out.block _ (kblock_lt HGW.out.2)).trans HGW.out.2
                have hfz := kfrozen hg3 (k * 7 + 1)
                have s1 := g1' p3
                have s2 := j1 p3
                have HPUT := Lib.hid (OwnC.put (OwnK.below HO2.out HP.out) HRC.out.ck k hkc2 1 (by decide) (.int .u32 (x.ttl : Int)))
                have HRS := Lib.hid (HRC.out.set k (RcAt.withTTL x.ttl HY1.out))
                have HCE := Lib.hid (show csd[k].set 1 (.int .u32 (x.ttl : Int)) = [.slice p0' q0' r0', .int .u32 (x.ttl : Int), .int .i64 y.data.ty, .slice p3' q3' r3', .slice p4' q4' r4', .slice p5' q5' r5', .slice p6' q6' r6'] by rw [HYC.out]; rfl)
                rw [HCE.out] at HPUT
                have HEND := Lib.hid (show canonM (l.take (i + 1)) = C.set k ⟨y.owner, x.ttl, y.data⟩ by
                  rw [HST.out, HHIT.out]
                  have e : (⟨C[k].owner, minT C[k].ttl x.ttl, C[k].data⟩ : Rc) = ⟨y.owner, x.ttl, y.data⟩ := by
                    rw [HY.out, minT_lt (by rw [HTY.out]; exact hlx)]
                  rw [e])
                have HGB := Lib.hid HGW.out.1
                clear g0 g1' g2' g3 g4 g5 g6 j0 j1 j2 j3 j4 j5 j6 hg3
                generalize p3.w = W3 at *
                go_wp2
                go_roundg (n - (i + 1))
                case measure => omega
                case rel => exact ⟨i + 1, _, m, gc, _, _, rfl, by go_num, by omega, by omega, by omega, Lib.hid ⟨by rw [List.length_set]; exact HL.out.1, HEND.out.symm⟩, HPUT, HRS, Lib.hid ((HB2.out.trans (HP.out.mono HB2.out.size)).setCell (p := ⟨g, k * 7 + 1, none⟩) HGB.out _)⟩
              · have hlxz : ¬ (x.ttl : Int) < (ty : Int) := by omega
                go_wp2_with fail
                refine wp_region_cls (fun W => Below wr2.heap.size wr2 W) follows_mixed (by kernel_rfl) hcl3 ?_
                repeat (go_big_quiet_step (fail))
                refine wpQuiet_nil ?_
                rintro _ ⟨p3, rfl⟩
                have HP := Lib.hid p3.ok
                have HEND := Lib.hid (show canonM (l.take (i + 1)) = C by
                  rw [HST.out, HHIT.out]
                  have e : (⟨(C[k]'(by have := HLC.out; omega)).owner, minT (C[k]'(by have := HLC.out; omega)).ttl x.ttl, (C[k]'(by have := HLC.out; omega)).data⟩ : Rc) = C[k]'(by have := HLC.out; omega) := by
                    rw [HY.out, minT_ge (by rw [HTY.out]; exact hlx)]
                  rw [e, List.set_getElem_self])
                clear g0 g1' g2' g3 g4 g5 g6 j0 j1 j2 j3 j4 j5 j6
                go_wp2
                go_roundg (n - (i + 1))
                case measure => omega
                case rel => exact ⟨i + 1, _, m, gc, csd, C, rfl, by go_num, by omega, by omega, by omega, Lib.hid ⟨HL.out.1, HEND.out.symm⟩, Lib.hid (OwnK.below HO2.out HP.out), HRC, Lib.hid (HB2.out.trans (HP.out.mono HB2.out.size))⟩
            · have hsv0 : sv = false := by rw [HSV.out]; simpa using heq
              subst hsv0
              go_wp2_with fail
              refine wp_region_cls (fun W => Below wr2.heap.size wr2 W) follows_mixed (by kernel_rfl) hcl2 ?_
              repeat (go_big_quiet_step (exact hcs _))
              refine wpQuiet_nil ?_
              rintro _ ⟨p2, rfl⟩
              have HGAP := Lib.hid (insR_gap x k C (by have := HLC.out; omega) HLS.out (fun h => by rw [HY.out, HCV.out]; omega))
              have HP2 := Lib.hid p2.ok
              have hmc2 := hmc
              clear g0 g1' g2' g3 g4 g5 g6 j0 j1 j2 j3 j4 j5 j6 hcs hmc
              have HB3 := Lib.hid (HB2.out.trans (HP2.out.mono HB2.out.size))
              have HO3 := Lib.hid (OwnK.below HO2.out HP2.out)
              clear hcl hcl2 hne
              generalize p2.w = W2 at *
              have hsz := HB3.out.size
              have HSZ := Lib.hid hsz
              have hsl3 : SlK W2 (.slice (some ⟨g, 0, none⟩) m gc) csd := SlK.of_own HO3.out HRC.out.ck
              have HTA := Lib.hid (hsl3.takeK k hk)
              have htd := hsl3.dropK HRC.out.ck k hk
              rw [Nat.zero_add] at htd
              have HTD := Lib.hid htd
              have HLK := Lib.hid (show (csd.take k).length = k by rw [List.length_take]; have := HL.out.1; omega)
              have HLD := Lib.hid (show (csd.drop k).length = m - k by rw [List.length_drop]; have := HL.out.1; omega)
              have HCK := Lib.hid (fun cs (h : cs ∈ csd.take k) => HRC.out.ck cs (List.mem_of_mem_take h))
              have HC1 := Lib.hid (fun cs (h : cs ∈ csd.take k) => one7 HRC.out cs (List.mem_of_mem_take h))
              have HDK := Lib.hid (fun cs (h : cs ∈ csd.drop k) => HRC.out.ck cs (List.mem_of_mem_drop h))
              have HD1 := Lib.hid (fun cs (h : cs ∈ csd.drop k) => one7 HRC.out cs (List.mem_of_mem_drop h))
              have HX7 := Lib.hid (show ∀ cs ∈ ([[.slice p0 q0 r0, .int .u32 (x.ttl : Int), .int .i64 x.data.ty, .slice p3 q3 r3, .slice p4 q4 r4, .slice p5 q5 r5, .slice p6 q6 r6]] : List (List Value)), cs.length = 7 by intro cs hc; rw [List.mem_singleton] at hc; subst hc; rfl)
              have HX1 := Lib.hid (show ∀ cs ∈ ([[.slice p0 q0 r0, .int .u32 (x.ttl : Int), .int .i64 x.data.ty, .slice p3 q3 r3, .slice p4 q4 r4, .slice p5 q5 r5, .slice p6 q6 r6]] : List (List Value)), ∀ u ∈ cs, u.oneCell' = true by
                intro cs hc u hu; rw [List.mem_singleton] at hc; subst hc; exact HX0.out.one u hu)
              have hbd : Below W2.heap.size W2 W2.drew := ⟨rfl, rfl, rfl, Nat.le_refl _, fun _ _ => rfl⟩
              have hbA : Below W2.heap.size W2 (W2.alloc (.cells #[] 109)).drew := hbd.alloc (Nat.le_refl _) _
              have hbB : Below W2.heap.size W2 ((W2.alloc (.cells #[] 109)).alloc (.cells #[.slice p0 q0 r0, .int .u32 (x.ttl : Int), .int .i64 x.data.ty, .slice p3 q3 r3, .slice p4 q4 r4, .slice p5 q5 r5, .slice p6 q6 r6] 109)).drew := hbA.alloc (by simp) _
              have hbC : Below W2.heap.size W2 ((W2.alloc (.cells #[.slice p0 q0 r0, .int .u32 (x.ttl : Int), .int .i64 x.data.ty, .slice p3 q3 r3, .slice p4 q4 r4, .slice p5 q5 r5, .slice p6 q6 r6] 109)).alloc (.cells #[] 109)).drew := (hbd.alloc (Nat.le_refl _) _).alloc (by simp) _
              have HBA := Lib.hid hbA; have HBB := Lib.hid hbB; have HBC := Lib.hid hbC
              have HOA := Lib.hid (show OwnC 7 109 ((W2.alloc (.cells #[] 109)).drew) W2.heap.size (.slice (some ⟨W2.heap.size, 0, none⟩) 0 0) [] from ownC_lit 7 109 W2.drew)
              have HOB := Lib.hid (show OwnC 7 109 (((W2.alloc (.cells #[] 109)).alloc (.cells #[.slice p0 q0 r0, .int .u32 (x.ttl : Int), .int .i64 x.data.ty, .slice p3 q3 r3, .slice p4 q4 r4, .slice p5 q5 r5, .slice p6 q6 r6] 109)).drew) W2.heap.size (.slice (some ⟨W2.heap.size, 0, none⟩) 0 0) [] from OwnK.alloc (ownC_lit 7 109 W2.drew) _)
              have hoC := ownC_lit 7 109 (W2.drew.alloc (.cells #[.slice p0 q0 r0, .int .u32 (x.ttl : Int), .int .i64 x.data.ty, .slice p3 q3 r3, .slice p4 q4 r4, .slice p5 q5 r5, .slice p6 q6 r6] 109))
              rw [World.size_alloc] at hoC
              have HOC := Lib.hid (show OwnC 7 109 (((W2.alloc (.cells #[.slice p0 q0 r0, .int .u32 (x.ttl : Int), .int .i64 x.data.ty, .slice p3 q3 r3, .slice p4 q4 r4, .slice p5 q5 r5, .slice p6 q6 r6] 109)).alloc (.cells #[] 109)).drew) W2.heap.size (.slice (some ⟨W2.heap.size + 1, 0, none⟩) 0 0) [] from OwnK.weaken hoC (by show W2.heap.size ≤ W2.heap.size + 1; omega))
              have hkB := knew (W2.drew.alloc (.cells #[] 109)) (.cells #[.slice p0 q0 r0, .int .u32 (x.ttl : Int), .int .i64 x.data.ty, .slice p3 q3 r3, .slice p4 q4 r4, .slice p5 q5 r5, .slice p6 q6 r6] 109)
              rw [World.size_alloc] at hkB
              have HKB := Lib.hid (show ((W2.alloc (.cells #[] 109)).alloc (.cells #[.slice p0 q0 r0, .int .u32 (x.ttl : Int), .int .i64 x.data.ty, .slice p3 q3 r3, .slice p4 q4 r4, .slice p5 q5 r5, .slice p6 q6 r6] 109)).drew.heap[W2.heap.size + 1]? = some (.cells #[.slice p0 q0 r0, .int .u32 (x.ttl : Int), .int .i64 x.data.ty, .slice p3 q3 r3, .slice p4 q4 r4, .slice p5 q5 r5, .slice p6 q6 r6] 109) from hkB)
              have HKC := Lib.hid (show ((W2.alloc (.cells #[.slice p0 q0 r0, .int .u32 (x.ttl : Int), .int .i64 x.data.ty, .slice p3 q3 r3, .slice p4 q4 r4, .slice p5 q5 r5, .slice p6 q6 r6] 109)).alloc (.cells #[] 109)).drew.heap[W2.heap.size]? = some (.cells #[.slice p0 q0 r0, .int .u32 (x.ttl : Int), .int .i64 x.data.ty, .slice p3 q3 r3, .slice p4 q4 r4, .slice p5 q5 r5, .slice p6 q6 r6] 109) from (Below.heap_alloc (W2.drew.alloc (.cells #[.slice p0 q0 r0, .int .u32 (x.ttl : Int), .int .i64 x.data.ty, .slice p3 q3 r3, .slice p4 q4 r4, .slice p5 q5 r5, .slice p6 q6 r6] 109)) (.cells #[] 109) W2.heap.size (by simp)).trans (knew W2.drew (.cells #[.slice p0 q0 r0, .int .u32 (x.ttl : Int), .int .i64 x.data.ty, .slice p3 q3 r3, .slice p4 q4 r4, .slice p5 q5 r5, .slice p6 q6 r6] 109)))
              obtain ⟨c0, c1, c2, c3, c4, c5, c6⟩ := HE.out W2.drew (HB3.out.trans (hbd.mono hsz))
              obtain ⟨d0, d1, d2, d3, d4, d5, d6⟩ := HE.out ((W2.alloc (.cells #[] 109)).drew) (HB3.out.trans (hbA.mono hsz))
              have hk0 : (0 : Int) ≤ (k : Int) := by omega
              have hkm1 : (k : Int) ≤ (m : Int) := by omega
              have hkc1 : (k : Int) ≤ (gc : Int) := by omega
              have hmc1 : (m : Int) ≤ (gc : Int) := by omega
              have HNK := Lib.hid (show k ≤ 1000000 ∧ m ≤ 1000000 by omega)
              have H4A := Lib.hid (step_append_h ((W2.alloc (.cells #[] 109)).drew) (.tmp 66) (.tmp 69) elem_ref (by decide) W2.heap.size (.slice (some ⟨W2.heap.size, 0, none⟩) 0 0) [] HOA.out (.slice (some ⟨g, 0, none⟩) k gc) (csd.take k) (HTA.out.below HBA.out) HCK.out HC1.out HBA.out.size (by have := HNK.out; rw [HLK.out]; unfold maxLen; simp <;> omega) (by have := HNK.out; rw [HLK.out]; simp <;> omega))
              have H4B := Lib.hid (step_append_h (((W2.alloc (.cells #[] 109)).alloc (.cells #[.slice p0 q0 r0, .int .u32 (x.ttl : Int), .int .i64 x.data.ty, .slice p3 q3 r3, .slice p4 q4 r4, .slice p5 q5 r5, .slice p6 q6 r6] 109)).drew) (.tmp 66) (.tmp 69) elem_ref (by decide) W2.heap.size (.slice (some ⟨W2.heap.size, 0, none⟩) 0 0) [] HOB.out (.slice (some ⟨g, 0, none⟩) k gc) (csd.take k) (HTA.out.below HBB.out) HCK.out HC1.out HBB.out.size (by have := HNK.out; rw [HLK.out]; unfold maxLen; simp <;> omega) (by have := HNK.out; rw [HLK.out]; simp <;> omega))
              have H4C := Lib.hid (step_append_h (((W2.alloc (.cells #[.slice p0 q0 r0, .int .u32 (x.ttl : Int), .int .i64 x.data.ty, .slice p3 q3 r3, .slice p4 q4 r4, .slice p5 q5 r5, .slice p6 q6 r6] 109)).alloc (.cells #[] 109)).drew) (.tmp 66) (.tmp 69) elem_ref (by decide) W2.heap.size (.slice (some ⟨W2.heap.size + 1, 0, none⟩) 0 0) [] HOC.out (.slice (some ⟨g, 0, none⟩) k gc) (csd.take k) (HTA.out.below HBC.out) HCK.out HC1.out HBC.out.size (by have := HNK.out; rw [HLK.out]; unfold maxLen; simp <;> omega) (by have := HNK.out; rw [HLK.out]; simp <;> omega))
              clear hsl3 hbd hbA hbB hbC hoC hkB
              go_wp2_with fail
              go_region_law (first
                | ((with_reducible refine H4A.out _ _ _ _ _ _ ?_ ?_ ?_ ?_ ?_); exact rfl; exact rfl; exact rfl; exact rfl; intro v4 w4 ho4 hg4; rw [List.nil_append] at ho4; have HO4 := Lib.hid ho4; have HB4 := Lib.hid (HBA.out.grown hg4 HBA.out.size (OwnK.base_le HOA.out)); have H10 := Lib.hid (step_append_h (w4.alloc (.cells #[.slice p0 q0 r0, .int .u32 (x.ttl : Int), .int .i64 x.data.ty, .slice p3 q3 r3, .slice p4 q4 r4, .slice p5 q5 r5, .slice p6 q6 r6] 109)) (.tmp 70) (.tmp 75) elem_ref (by decide) W2.heap.size v4 (csd.take k) (OwnK.alloc HO4.out _) (.slice (some ⟨w4.heap.size, 0, none⟩) 1 1) [[.slice p0 q0 r0, .int .u32 (x.ttl : Int), .int .i64 x.data.ty, .slice p3 q3 r3, .slice p4 q4 r4, .slice p5 q5 r5, .slice p6 q6 r6]] (slK_blk (css := [[.slice p0 q0 r0, .int .u32 (x.ttl : Int), .int .i64 x.data.ty, .slice p3 q3 r3, .slice p4 q4 r4, .slice p5 q5 r5, .slice p6 q6 r6]]) (knew w4 _)) HX7.out HX1.out (by have := HB4.out.size; simp <;> omega) (by have := HNK.out; rw [HLK.out]; unfold maxLen; simp <;> omega) (by have := HNK.out; rw [HLK.out]; simp <;> omega)); have H10B := Lib.hid (fun (w5 : World) (hg : World.grownBy (w4.alloc (.cells #[.slice p0 q0 r0, .int .u32 (x.ttl : Int), .int .i64 x.data.ty, .slice p3 q3 r3, .slice p4 q4 r4, .slice p5 q5 r5, .slice p6 q6 r6] 109)) w5 v4.ownBlock) => ((HB4.out.alloc HB4.out.size _).grown hg (by have := HB4.out.size; simp <;> omega) (OwnK.base_le HO4.out))); obtain ⟨e0, e1, e2, e3, e4, e5, e6⟩ := HE.out w4 (HB3.out.trans (HB4.out.mono HSZ.out)); clear ho4 hg4)
                | ((with_reducible refine H4B.out _ _ _ _ _ _ ?_ ?_ ?_ ?_ ?_); exact rfl; exact rfl; exact rfl; exact rfl; intro v4 w4 ho4 hg4; rw [List.nil_append] at ho4; have HO4 := Lib.hid ho4; have HB4 := Lib.hid (HBB.out.grown hg4 HBB.out.size (OwnK.base_le HOB.out)); have HBX := Lib.hid ((hg4.block (W2.heap.size + 1) (kblock_lt HKB.out) (by simp [Value.ownBlock])).trans HKB.out); have H10 := Lib.hid (step_append_h (w4) (.tmp 70) (.tmp 75) elem_ref (by decide) W2.heap.size v4 (csd.take k) (HO4.out) (.slice (some ⟨W2.heap.size + 1, 0, none⟩) 1 1) [[.slice p0 q0 r0, .int .u32 (x.ttl : Int), .int .i64 x.data.ty, .slice p3 q3 r3, .slice p4 q4 r4, .slice p5 q5 r5, .slice p6 q6 r6]] (slK_blk (css := [[.slice p0 q0 r0, .int .u32 (x.ttl : Int), .int .i64 x.data.ty, .slice p3 q3 r3, .slice p4 q4 r4, .slice p5 q5 r5, .slice p6 q6 r6]]) HBX.out) HX7.out HX1.out (HB4.out.size) (by have := HNK.out; rw [HLK.out]; unfold maxLen; simp <;> omega) (by have := HNK.out; rw [HLK.out]; simp <;> omega)); have H10B := Lib.hid (fun (w5 : World) (hg : World.grownBy (w4) w5 v4.ownBlock) => (HB4.out.grown hg HB4.out.size (OwnK.base_le HO4.out))); clear ho4 hg4)
                | ((with_reducible refine H4C.out _ _ _ _ _ _ ?_ ?_ ?_ ?_ ?_); exact rfl; exact rfl; exact rfl; exact rfl; intro v4 w4 ho4 hg4; rw [List.nil_append] at ho4; have HO4 := Lib.hid ho4; have HB4 := Lib.hid (HBC.out.grown hg4 HBC.out.size (OwnK.base_le HOC.out)); have HBX := Lib.hid ((hg4.block W2.heap.size (kblock_lt HKC.out) (by simp [Value.ownBlock])).trans HKC.out); have H10 := Lib.hid (step_append_h (w4) (.tmp 70) (.tmp 75) elem_ref (by decide) W2.heap.size v4 (csd.take k) (HO4.out) (.slice (some ⟨W2.heap.size, 0, none⟩) 1 1) [[.slice p0 q0 r0, .int .u32 (x.ttl : Int), .int .i64 x.data.ty, .slice p3 q3 r3, .slice p4 q4 r4, .slice p5 q5 r5, .slice p6 q6 r6]] (slK_blk (css := [[.slice p0 q0 r0, .int .u32 (x.ttl : Int), .int .i64 x.data.ty, .slice p3 q3 r3, .slice p4 q4 r4, .slice p5 q5 r5, .slice p6 q6 r6]]) HBX.out) HX7.out HX1.out (HB4.out.size) (by have := HNK.out; rw [HLK.out]; unfold maxLen; simp <;> omega) (by have := HNK.out; rw [HLK.out]; simp <;> omega)); have H10B := Lib.hid (fun (w5 : World) (hg : World.grownBy (w4) w5 v4.ownBlock) => (HB4.out.grown hg HB4.out.size (OwnK.base_le HO4.out))); clear ho4 hg4)
                | ((with_reducible refine H10.out _ _ _ _ _ _ ?_ ?_ ?_ ?_ ?_); exact rfl; exact rfl; exact rfl; exact rfl; intro v5 w5 ho5 hg5; have HO5 := Lib.hid ho5; have HB5 := Lib.hid (H10B.out w5 hg5); clear ho5 hg5))
              all_goals
                obtain ⟨a5, z5, e5⟩ := OwnK.shape HO5.out
                rw [List.length_append, HLK.out] at e5
                simp only [List.length_cons, List.length_nil, Nat.zero_add] at e5
                subst e5
                clear c0 c1 c2 c3 c4 c5 c6 d0 d1 d2 d3 d4 d5 d6
                go_wp2_with (at_builtin; refine wpl_append_slk w5 rfl (.tmp 77) (.tmp 80) elem_ref (by decide) rfl W2.heap.size (.slice a5 _ z5) _ rfl HO5.out (.slice (some ⟨g, k * 7, none⟩) (m - k) (gc - k)) (csd.drop k) rfl (HTD.out.below HB5.out) HDK.out HD1.out HB5.out.size (by have := HNK.out; rw [List.length_append, HLK.out, HLD.out]; unfold maxLen; simp <;> omega) (by have := HNK.out; rw [List.length_append, HLK.out, HLD.out]; simp <;> omega) ?_; intro v6 w6 ho6 hg6)
                have HO6 := Lib.hid ho6
                have HB6 := Lib.hid (HB5.out.grown hg6 HB5.out.size (OwnK.base_le HO5.out))
                clear ho6 hg6
                obtain ⟨a6, c6, e6⟩ := OwnK.shape HO6.out
                have hl6 : (csd.take k ++ ([[.slice p0 q0 r0, .int .u32 (x.ttl : Int), .int .i64 x.data.ty, .slice p3 q3 r3, .slice p4 q4 r4, .slice p5 q5 r5, .slice p6 q6 r6]] : List (List Value)) ++ csd.drop k).length = m + 1 := by rw [List.length_append, List.length_append, HLK.out, HLD.out]; simp <;> omega
                rw [hl6] at e6
                subst e6
                go_roundg (n - (i + 1))
                case measure => omega
                case rel => exact ⟨i + 1, a6, m + 1, c6, _, _, rfl, by go_num, by omega, by omega, by omega, Lib.hid ⟨hl6, by rw [HST.out, HGAP.out]⟩, Lib.hid (OwnK.weaken HO6.out HSZ.out), Lib.hid (HRC.out.gap k HX0.out), Lib.hid (HB3.out.trans (HB6.out.mono HSZ.out))⟩
        · have hkz : ¬ (k : Int) < (m : Int) := by omega
          have HGAP := Lib.hid (insR_gap x k C (by have := HLC.out; omega) HLS.out (fun h => by have := HLC.out; omega))
          go_wp2_with fail
          refine wp_region_cls (fun W => Below wr2.heap.size wr2 W) follows_mixed (by kernel_rfl) hcl ?_
          repeat (go_big_quiet_step (fail))
          refine wpQuiet_nil ?_
          rintro _ ⟨p, rfl⟩
          have hcl2 : (fun W => Below wr2.heap.size wr2 W) p.w.drew := p.ok.trans ⟨rfl, rfl, rfl, Nat.le_refl _, fun _ _ => rfl⟩
          go_wp2_with fail
          refine wp_region_cls (fun W => Below wr2.heap.size wr2 W) follows_mixed (by kernel_rfl) hcl2 ?_
          repeat (go_big_quiet_step (fail))
          refine wpQuiet_nil ?_
          rintro _ ⟨p2, rfl⟩
          have HP2 := Lib.hid p2.ok
          rcases OwnC.some' HO2.out with ⟨rfl, rfl, rfl, rfl⟩ | ⟨g, cur, rfl, hgb, hgw, hmc2, -⟩
          · obtain rfl : k = 0 := by omega
            have HB3 := Lib.hid (HB2.out.trans (HP2.out.mono HB2.out.size))
            have HO3 := Lib.hid (OwnK.below HO2.out HP2.out)
            clear hcl hcl2 hne
            generalize p2.w = W2 at *
            have hsz := HB3.out.size
            have HSZ := Lib.hid hsz
            have hsl3 : SlK W2 (.slice none 0 0) [] := SlK.of_own HO3.out HRC.out.ck
            have HTA := Lib.hid hsl3
            have HTD := Lib.hid (show SlK W2 (.slice none 0 0) ([] : List (List Value)) from SlK.nil W2)
            have HLK := Lib.hid (show (([] : List (List Value))).length = 0 from rfl)
            have HLD := Lib.hid (show (([] : List (List Value))).length = 0 - 0 from rfl)
            have HCK := Lib.hid (show ∀ cs ∈ ([] : List (List Value)), cs.length = 7 from fun cs h => absurd h (by simp))
            have HC1 := Lib.hid (show ∀ cs ∈ ([] : List (List Value)), ∀ u ∈ cs, u.oneCell' = true from fun cs h => absurd h (by simp))
            have HDK := Lib.hid (show ∀ cs ∈ ([] : List (List Value)), cs.length = 7 from fun cs h => absurd h (by simp))
            have HD1 := Lib.hid (show ∀ cs ∈ ([] : List (List Value)), ∀ u ∈ cs, u.oneCell' = true from fun cs h => absurd h (by simp))
            have HX7 := Lib.hid (show ∀ cs ∈ ([[.slice p0 q0 r0, .int .u32 (x.ttl : Int), .int .i64 x.data.ty, .slice p3 q3 r3, .slice p4 q4 r4, .slice p5 q5 r5, .slice p6 q6 r6]] : List (List Value)), cs.length = 7 by intro cs hc; rw [List.mem_singleton] at hc; subst hc; rfl)
            have HX1 := Lib.hid (show ∀ cs ∈ ([[.slice p0 q0 r0, .int .u32 (x.ttl : Int), .int .i64 x.data.ty, .slice p3 q3 r3, .slice p4 q4 r4, .slice p5 q5 r5, .slice p6 q6 r6]] : List (List Value)), ∀ u ∈ cs, u.oneCell' = true by
              intro cs hc u hu; rw [List.mem_singleton] at hc; subst hc; exact HX0.out.one u hu)
            have hbd : Below W2.heap.size W2 W2.drew := ⟨rfl, rfl, rfl, Nat.le_refl _, fun _ _ => rfl⟩
            have hbA : Below W2.heap.size W2 (W2.alloc (.cells #[] 109)).drew := hbd.alloc (Nat.le_refl _) _
            have hbB : Below W2.heap.size W2 ((W2.alloc (.cells #[] 109)).alloc (.cells #[.slice p0 q0 r0, .int .u32 (x.ttl : Int), .int .i64 x.data.ty, .slice p3 q3 r3, .slice p4 q4 r4, .slice p5 q5 r5, .slice p6 q6 r6] 109)).drew := hbA.alloc (by simp) _
            have hbC : Below W2.heap.size W2 ((W2.alloc (.cells #[.slice p0 q0 r0, .int .u32 (x.ttl : Int), .int .i64 x.data.ty, .slice p3 q3 r3, .slice p4 q4 r4, .slice p5 q5 r5, .slice p6 q6 r6] 109)).alloc (.cells #[] 109)).drew := (hbd.alloc (Nat.le_refl _) _).alloc (by simp) _
            have HBA := Lib.hid hbA; have HBB := Lib.hid hbB; have HBC := Lib.hid hbC
            have HOA := Lib.hid (show OwnC 7 109 ((W2.alloc (.cells #[] 109)).drew) W2.heap.size (.slice (some ⟨W2.heap.size, 0, none⟩) 0 0) [] from ownC_lit 7 109 W2.drew)
            have HOB := Lib.hid (show OwnC 7 109 (((W2.alloc (.cells #[] 109)).alloc (.cells #[.slice p0 q0 r0, .int .u32 (x.ttl : Int), .int .i64 x.data.ty, .slice p3 q3 r3, .slice p4 q4 r4, .slice p5 q5 r5, .slice p6 q6 r6] 109)).drew) W2.heap.size (.slice (some ⟨W2.heap.size, 0, none⟩) 0 0) [] from OwnK.alloc (ownC_lit 7 109 W2.drew) _)
            have hoC := ownC_lit 7 109 (W2.drew.alloc (.cells #[.slice p0 q0 r0, .int .u32 (x.ttl : Int), .int .i64 x.data.ty, .slice p3 q3 r3, .slice p4 q4 r4, .slice p5 q5 r5, .slice p6 q6 r6] 109))
            rw [World.size_alloc] at hoC
            have HOC := Lib.hid (show OwnC 7 109 (((W2.alloc (.cells #[.slice p0 q0 r0, .int .u32 (x.ttl : Int), .int .i64 x.data.ty, .slice p3 q3 r3, .slice p4 q4 r4, .slice p5 q5 r5, .slice p6 q6 r6] 109)).alloc (.cells #[] 109)).drew) W2.heap.size (.slice (some ⟨W2.heap.size + 1, 0, none⟩) 0 0) [] from OwnK.weaken hoC (by show W2.heap.size ≤ W2.heap.size + 1; omega))
            have hkB := knew (W2.drew.alloc (.cells #[] 109)) (.cells #[.slice p0 q0 r0, .int .u32 (x.ttl : Int), .int .i64 x.data.ty, .slice p3 q3 r3, .slice p4 q4 r4, .slice p5 q5 r5, .slice p6 q6 r6] 109)
            rw [World.size_alloc] at hkB
            have HKB := Lib.hid (show ((W2.alloc (.cells #[] 109)).alloc (.cells #[.slice p0 q0 r0, .int .u32 (x.ttl : Int), .int .i64 x.data.ty, .slice p3 q3 r3, .slice p4 q4 r4, .slice p5 q5 r5, .slice p6 q6 r6] 109)).drew.heap[W2.heap.size + 1]? = some (.cells #[.slice p0 q0 r0, .int .u32 (x.ttl : Int), .int .i64 x.data.ty, .slice p3 q3 r3, .slice p4 q4 r4, .slice p5 q5 r5, .slice p6 q6 r6] 109) from hkB)
            have HKC := Lib.hid (show ((W2.alloc (.cells #[.slice p0 q0 r0, .int .u32 (x.ttl : Int), .int .i64 x.data.ty, .slice p3 q3 r3, .slice p4 q4 r4, .slice p5 q5 r5, .slice p6 q6 r6] 109)).alloc (.cells #[] 109)).drew.heap[W2.heap.size]? = some (.cells #[.slice p0 q0 r0, .int .u32 (x.ttl : Int), .int .i64 x.data.ty, .slice p3 q3 r3, .slice p4 q4 r4, .slice p5 q5 r5, .slice p6 q6 r6] 109) from (Below.heap_alloc (W2.drew.alloc (.cells #[.slice p0 q0 r0, .int .u32 (x.ttl : Int), .int .i64 x.data.ty, .slice p3 q3 r3, .slice p4 q4 r4, .slice p5 q5 r5, .slice p6 q6 r6] 109)) (.cells #[] 109) W2.heap.size (by simp)).trans (knew W2.drew (.cells #[.slice p0 q0 r0, .int .u32 (x.ttl : Int), .int .i64 x.data.ty, .slice p3 q3 r3, .slice p4 q4 r4, .slice p5 q5 r5, .slice p6 q6 r6] 109)))
            obtain ⟨c0, c1, c2, c3, c4, c5, c6⟩ := HE.out W2.drew (HB3.out.trans (hbd.mono hsz))
            obtain ⟨d0, d1, d2, d3, d4, d5, d6⟩ := HE.out ((W2.alloc (.cells #[] 109)).drew) (HB3.out.trans (hbA.mono hsz))
            have hk0 : (0 : Int) ≤ (0 : Int) := by omega
            have hkm1 : (0 : Int) ≤ (0 : Int) := by omega
            have hkc1 : (0 : Int) ≤ (0 : Int) := by omega
            have hmc1 : (0 : Int) ≤ (0 : Int) := by omega
            have HNK := Lib.hid (show 0 ≤ 1000000 ∧ 0 ≤ 1000000 by omega)
            have H4A := Lib.hid (step_append_h ((W2.alloc (.cells #[] 109)).drew) (.tmp 66) (.tmp 69) elem_ref (by decide) W2.heap.size (.slice (some ⟨W2.heap.size, 0, none⟩) 0 0) [] HOA.out (.slice none 0 0) (([] : List (List Value))) (HTA.out.below HBA.out) HCK.out HC1.out HBA.out.size (by have := HNK.out; rw [HLK.out]; unfold maxLen; simp <;> omega) (by have := HNK.out; rw [HLK.out]; simp <;> omega))
            have H4B := Lib.hid (step_append_h (((W2.alloc (.cells #[] 109)).alloc (.cells #[.slice p0 q0 r0, .int .u32 (x.ttl : Int), .int .i64 x.data.ty, .slice p3 q3 r3, .slice p4 q4 r4, .slice p5 q5 r5, .slice p6 q6 r6] 109)).drew) (.tmp 66) (.tmp 69) elem_ref (by decide) W2.heap.size (.slice (some ⟨W2.heap.size, 0, none⟩) 0 0) [] HOB.out (.slice none 0 0) (([] : List (List Value))) (HTA.out.below HBB.out) HCK.out HC1.out HBB.out.size (by have := HNK.out; rw [HLK.out]; unfold maxLen; simp <;> omega) (by have := HNK.out; rw [HLK.out]; simp <;> omega))
            have H4C := Lib.hid (step_append_h (((W2.alloc (.cells #[.slice p0 q0 r0, .int .u32 (x.ttl : Int), .int .i64 x.data.ty, .slice p3 q3 r3, .slice p4 q4 r4, .slice p5 q5 r5, .slice p6 q6 r6] 109)).alloc (.cells #[] 109)).drew) (.tmp 66) (.tmp 69) elem_ref (by decide) W2.heap.size (.slice (some ⟨W2.heap.size + 1, 0, none⟩) 0 0) [] HOC.out (.slice none 0 0) (([] : List (List Value))) (HTA.out.below HBC.out) HCK.out HC1.out HBC.out.size (by have := HNK.out; rw [HLK.out]; unfold maxLen; simp <;> omega) (by have := HNK.out; rw [HLK.out]; simp <;> omega))
            clear hsl3 hbd hbA hbB hbC hoC hkB
            go_wp2_with fail
            go_region_law (first
              | ((with_reducible refine H4A.out _ _ _ _ _ _ ?_ ?_ ?_ ?_ ?_); exact rfl; exact rfl; exact rfl; exact rfl; intro v4 w4 ho4 hg4; rw [List.nil_append] at ho4; have HO4 := Lib.hid ho4; have HB4 := Lib.hid (HBA.out.grown hg4 HBA.out.size (OwnK.base_le HOA.out)); have H10 := Lib.hid (step_append_h (w4.alloc (.cells #[.slice p0 q0 r0, .int .u32 (x.ttl : Int), .int .i64 x.data.ty, .slice p3 q3 r3, .slice p4 q4 r4, .slice p5 q5 r5, .slice p6 q6 r6] 109)) (.tmp 70) (.tmp 75) elem_ref (by decide) W2.heap.size v4 (([] : List (List Value))) (OwnK.alloc HO4.out _) (.slice (some ⟨w4.heap.size, 0, none⟩) 1 1) [[.slice p0 q0 r0, .int .u32 (x.ttl : Int), .int .i64 x.data.ty, .slice p3 q3 r3, .slice p4 q4 r4, .slice p5 q5 r5, .slice p6 q6 r6]] (slK_blk (css := [[.slice p0 q0 r0, .int .u32 (x.ttl : Int), .int .i64 x.data.ty, .slice p3 q3 r3, .slice p4 q4 r4, .slice p5 q5 r5, .slice p6 q6 r6]]) (knew w4 _)) HX7.out HX1.out (by have := HB4.out.size; simp <;> omega) (by have := HNK.out; rw [HLK.out]; unfold maxLen; simp <;> omega) (by have := HNK.out; rw [HLK.out]; simp <;> omega)); have H10B := Lib.hid (fun (w5 : World) (hg : World.grownBy (w4.alloc (.cells #[.slice p0 q0 r0, .int .u32 (x.ttl : Int), .int .i64 x.data.ty, .slice p3 q3 r3, .slice p4 q4 r4, .slice p5 q5 r5, .slice p6 q6 r6] 109)) w5 v4.ownBlock) => ((HB4.out.alloc HB4.out.size _).grown hg (by have := HB4.out.size; simp <;> omega) (OwnK.base_le HO4.out))); obtain ⟨e0, e1, e2, e3, e4, e5, e6⟩ := HE.out w4 (HB3.out.trans (HB4.out.mono HSZ.out)); clear ho4 hg4)
              | ((with_reducible refine H4B.out _ _ _ _ _ _ ?_ ?_ ?_ ?_ ?_); exact rfl; exact rfl; exact rfl; exact rfl; intro v4 w4 ho4 hg4; rw [List.nil_append] at ho4; have HO4 := Lib.hid ho4; have HB4 := Lib.hid (HBB.out.grown hg4 HBB.out.size (OwnK.base_le HOB.out)); have HBX := Lib.hid ((hg4.block (W2.heap.size + 1) (kblock_lt HKB.out) (by simp [Value.ownBlock])).trans HKB.out); have H10 := Lib.hid (step_append_h (w4) (.tmp 70) (.tmp 75) elem_ref (by decide) W2.heap.size v4 (([] : List (List Value))) (HO4.out) (.slice (some ⟨W2.heap.size + 1, 0, none⟩) 1 1) [[.slice p0 q0 r0, .int .u32 (x.ttl : Int), .int .i64 x.data.ty, .slice p3 q3 r3, .slice p4 q4 r4, .slice p5 q5 r5, .slice p6 q6 r6]] (slK_blk (css := [[.slice p0 q0 r0, .int .u32 (x.ttl : Int), .int .i64 x.data.ty, .slice p3 q3 r3, .slice p4 q4 r4, .slice p5 q5 r5, .slice p6 q6 r6]]) HBX.out) HX7.out HX1.out (HB4.out.size) (by have := HNK.out; rw [HLK.out]; unfold maxLen; simp <;> omega) (by have := HNK.out; rw [HLK.out]; simp <;> omega)); have H10B := Lib.hid (fun (w5 : World) (hg : World.grownBy (w4) w5 v4.ownBlock) => (HB4.out.grown hg HB4.out.size (OwnK.base_le HO4.out))); clear ho4 hg4)
              | ((with_reducible refine H4C.out _ _ _ _ _ _ ?_ ?_ ?_ ?_ ?_); exact rfl; exact rfl; exact rfl; exact rfl; intro v4 w4 ho4 hg4; rw [List.nil_append] at ho4; have HO4 := Lib.hid ho4; have HB4 := Lib.hid (HBC.out.grown hg4 HBC.out.size (OwnK.base_le HOC.out)); have HBX := Lib.hid ((hg4.block W2.heap.size (kblock_lt HKC.out) (by simp [Value.ownBlock])).trans HKC.out); have H10 := Lib.hid (step_append_h (w4) (.tmp 70) (.tmp 75) elem_ref (by decide) W2.heap.size v4 (([] : List (List Value))) (HO4.out) (.slice (some ⟨W2.heap.size, 0, none⟩) 1 1) [[.slice p0 q0 r0, .int .u32 (x.ttl : Int), .int .i64 x.data.ty, .slice p3 q3 r3, .slice p4 q4 r4, .slice p5 q5 r5, .slice p6 q6 r6]] (slK_blk (css := [[.slice p0 q0 r0, .int .u32 (x.ttl : Int), .int .i64 x.data.ty, .slice p3 q3 r3, .slice p4 q4 r4, .slice p5 q5 r5, .slice p6 q6 r6]]) HBX.out) HX7.out HX1.out (HB4.out.size) (by have := HNK.out; rw [HLK.out]; unfold maxLen; simp <;> omega) (by have := HNK.out; rw [HLK.out]; simp <;> omega)); have H10B := Lib.hid (fun (w5 : World) (hg : World.grownBy (w4) w5 v4.ownBlock) => (HB4.out.grown hg HB4.out.size (OwnK.base_le HO4.out))); clear ho4 hg4)
              | ((with_reducible refine H10.out _ _ _ _ _ _ ?_ ?_ ?_ ?_ ?_); exact rfl; exact rfl; exact rfl; exact rfl; intro v5 w5 ho5 hg5; have HO5 := Lib.hid ho5; have HB5 := Lib.hid (H10B.out w5 hg5); clear ho5 hg5))
            all_goals
              obtain ⟨a5, z5, e5⟩ := OwnK.shape HO5.out
              rw [List.length_append, HLK.out] at e5
              simp only [List.length_cons, List.length_nil, Nat.zero_add] at e5
              subst e5
              clear c0 c1 c2 c3 c4 c5 c6 d0 d1 d2 d3 d4 d5 d6
              go_wp2_with (at_builtin; refine wpl_append_slk w5 rfl (.tmp 77) (.tmp 80) elem_ref (by decide) rfl W2.heap.size (.slice a5 _ z5) _ rfl HO5.out (.slice none 0 0) (([] : List (List Value))) rfl (HTD.out.below HB5.out) HDK.out HD1.out HB5.out.size (by unfold maxLen; simp) (by simp) ?_; intro v6 w6 ho6 hg6)
              have HO6 := Lib.hid ho6
              have HB6 := Lib.hid (HB5.out.grown hg6 HB5.out.size (OwnK.base_le HO5.out))
              clear ho6 hg6
              obtain ⟨a6, c6, e6⟩ := OwnK.shape HO6.out
              have hl6 : (([] : List (List Value)) ++ ([[.slice p0 q0 r0, .int .u32 (x.ttl : Int), .int .i64 x.data.ty, .slice p3 q3 r3, .slice p4 q4 r4, .slice p5 q5 r5, .slice p6 q6 r6]] : List (List Value)) ++ ([] : List (List Value))).length = 0 + 1 := by simp
              rw [hl6] at e6
              subst e6
              go_roundg (n - (i + 1))
              case measure => omega
              case rel => exact ⟨i + 1, a6, 0 + 1, c6, _, _, rfl, by go_num, by omega, by omega, by omega, Lib.hid ⟨hl6, by rw [HST.out, HGAP.out]⟩, Lib.hid (OwnK.weaken HO6.out HSZ.out), Lib.hid (HRC.out.gap 0 HX0.out), Lib.hid (HB3.out.trans (HB6.out.mono HSZ.out))⟩
          · clear hgb hgw
            have HB3 := Lib.hid (HB2.out.trans (HP2.out.mono HB2.out.size))
            have HO3 := Lib.hid (OwnK.below HO2.out HP2.out)
            clear hcl hcl2 hne
            generalize p2.w = W2 at *
            have hsz := HB3.out.size
            have HSZ := Lib.hid hsz
            have hsl3 : SlK W2 (.slice (some ⟨g, 0, none⟩) m gc) csd := SlK.of_own HO3.out HRC.out.ck
            have HTA := Lib.hid (hsl3.takeK k hk)
            have htd := hsl3.dropK HRC.out.ck k hk
            rw [Nat.zero_add] at htd
            have HTD := Lib.hid htd
            have HLK := Lib.hid (show (csd.take k).length = k by rw [List.length_take]; have := HL.out.1; omega)
            have HLD := Lib.hid (show (csd.drop k).length = m - k by rw [List.length_drop]; have := HL.out.1; omega)
            have HCK := Lib.hid (fun cs (h : cs ∈ csd.take k) => HRC.out.ck cs (List.mem_of_mem_take h))
            have HC1 := Lib.hid (fun cs (h : cs ∈ csd.take k) => one7 HRC.out cs (List.mem_of_mem_take h))
            have HDK := Lib.hid (fun cs (h : cs ∈ csd.drop k) => HRC.out.ck cs (List.mem_of_mem_drop h))
            have HD1 := Lib.hid (fun cs (h : cs ∈ csd.drop k) => one7 HRC.out cs (List.mem_of_mem_drop h))
            have HX7 := Lib.hid (show ∀ cs ∈ ([[.slice p0 q0 r0, .int .u32 (x.ttl : Int), .int .i64 x.data.ty, .slice p3 q3 r3, .slice p4 q4 r4, .slice p5 q5 r5, .slice p6 q6 r6]] : List (List Value)), cs.length = 7 by intro cs hc; rw [List.mem_singleton] at hc; subst hc; rfl)
            have HX1 := Lib.hid (show ∀ cs ∈ ([[.slice p0 q0 r0, .int .u32 (x.ttl : Int), .int .i64 x.data.ty, .slice p3 q3 r3, .slice p4 q4 r4, .slice p5 q5 r5, .slice p6 q6 r6]] : List (List Value)), ∀ u ∈ cs, u.oneCell' = true by
              intro cs hc u hu; rw [List.mem_singleton] at hc; subst hc; exact HX0.out.one u hu)
            have hbd : Below W2.heap.size W2 W2.drew := ⟨rfl, rfl, rfl, Nat.le_refl _, fun _ _ => rfl⟩
            have hbA : Below W2.heap.size W2 (W2.alloc (.cells #[] 109)).drew := hbd.alloc (Nat.le_refl _) _
            have hbB : Below W2.heap.size W2 ((W2.alloc (.cells #[] 109)).alloc (.cells #[.slice p0 q0 r0, .int .u32 (x.ttl : Int), .int .i64 x.data.ty, .slice p3 q3 r3, .slice p4 q4 r4, .slice p5 q5 r5, .slice p6 q6 r6] 109)).drew := hbA.alloc (by simp) _
            have hbC : Below W2.heap.size W2 ((W2.alloc (.cells #[.slice p0 q0 r0, .int .u32 (x.ttl : Int), .int .i64 x.data.ty, .slice p3 q3 r3, .slice p4 q4 r4, .slice p5 q5 r5, .slice p6 q6 r6] 109)).alloc (.cells #[] 109)).drew := (hbd.alloc (Nat.le_refl _) _).alloc (by simp) _
            have HBA := Lib.hid hbA; have HBB := Lib.hid hbB; have HBC := Lib.hid hbC
            have HOA := Lib.hid (show OwnC 7 109 ((W2.alloc (.cells #[] 109)).drew) W2.heap.size (.slice (some ⟨W2.heap.size, 0, none⟩) 0 0) [] from ownC_lit 7 109 W2.drew)
            have HOB := Lib.hid (show OwnC 7 109 (((W2.alloc (.cells #[] 109)).alloc (.cells #[.slice p0 q0 r0, .int .u32 (x.ttl : Int), .int .i64 x.data.ty, .slice p3 q3 r3, .slice p4 q4 r4, .slice p5 q5 r5, .slice p6 q6 r6] 109)).drew) W2.heap.size (.slice (some ⟨W2.heap.size, 0, none⟩) 0 0) [] from OwnK.alloc (ownC_lit 7 109 W2.drew) _)
            have hoC := ownC_lit 7 109 (W2.drew.alloc (.cells #[.slice p0 q0 r0, .int .u32 (x.ttl : Int), .int .i64 x.data.ty, .slice p3 q3 r3, .slice p4 q4 r4, .slice p5 q5 r5, .slice p6 q6 r6] 109))
            rw [World.size_alloc] at hoC
            have HOC := Lib.hid (show OwnC 7 109 (((W2.alloc (.cells #[.slice p0 q0 r0, .int .u32 (x.ttl : Int), .int .i64 x.data.ty, .slice p3 q3 r3, .slice p4 q4 r4, .slice p5 q5 r5, .slice p6 q6 r6] 109)).alloc (.cells #[] 109)).drew) W2.heap.size (.slice (some ⟨W2.heap.size + 1, 0, none⟩) 0 0) [] from OwnK.weaken hoC (by show W2.heap.size ≤ W2.heap.size + 1; omega))
            have hkB := knew (W2.drew.alloc (.cells #[] 109)) (.cells #[.slice p0 q0 r0, .int .u32 (x.ttl : Int), .int .i64 x.data.ty, .slice p3 q3 r3, .slice p4 q4 r4, .slice p5 q5 r5, .slice p6 q6 r6] 109)
            rw [World.size_alloc] at hkB
            have HKB := Lib.hid (show ((W2.alloc (.cells #[] 109)).alloc (.cells #[.slice p0 q0 r0, .int .u32 (x.ttl : Int), .int .i64 x.data.ty, .slice p3 q3 r3, .slice p4 q4 r4, .slice p5 q5 r5, .slice p6 q6 r6] 109)).drew.heap[W2.heap.size + 1]? = some (.cells #[.slice p0 q0 r0, .int .u32 (x.ttl : Int), .int .i64 x.data.ty, .slice p3 q3 r3, .slice p4 q4 r4, .slice p5 q5 r5, .slice p6 q6 r6] 109) from hkB)
            have HKC := Lib.hid (show ((W2.alloc (.cells #[.slice p0 q0 r0, .int .u32 (x.ttl : Int), .int .i64 x.data.ty, .slice p3 q3 r3, .slice p4 q4 r4, .slice p5 q5 r5, .slice p6 q6 r6] 109)).alloc (.cells #[] 109)).drew.heap[W2.heap.size]? = some (.cells #[.slice p0 q0 r0, .int .u32 (x.ttl : Int), .int .i64 x.data.ty, .slice p3 q3 r3, .slice p4 q4 r4, .slice p5 q5 r5, .slice p6 q6 r6] 109) from (Below.heap_alloc (W2.drew.alloc (.cells #[.slice p0 q0 r0, .int .u32 (x.ttl : Int), .int .i64 x.data.ty, .slice p3 q3 r3, .slice p4 q4 r4, .slice p5 q5 r5, .slice p6 q6 r6] 109)) (.cells #[] 109) W2.heap.size (by simp)).trans (knew W2.drew (.cells #[.slice p0 q0 r0, .int .u32 (x.ttl : Int), .int .i64 x.data.ty, .slice p3 q3 r3, .slice p4 q4 r4, .slice p5 q5 r5, .slice p6 q6 r6] 109)))
            obtain ⟨c0, c1, c2, c3, c4, c5, c6⟩ := HE.out W2.drew (HB3.out.trans (hbd.mono hsz))
            obtain ⟨d0, d1, d2, d3, d4, d5, d6⟩ := HE.out ((W2.alloc (.cells #[] 109)).drew) (HB3.out.trans (hbA.mono hsz))
            have hk0 : (0 : Int) ≤ (k : Int) := by omega
            have hkm1 : (k : Int) ≤ (m : Int) := by omega
            have hkc1 : (k : Int) ≤ (gc : Int) := by omega
            have hmc1 : (m : Int) ≤ (gc : Int) := by omega
            have HNK := Lib.hid (show k ≤ 1000000 ∧ m ≤ 1000000 by omega)
            have H4A := Lib.hid (step_append_h ((W2.alloc (.cells #[] 109)).drew) (.tmp 66) (.tmp 69) elem_ref (by decide) W2.heap.size (.slice (some ⟨W2.heap.size, 0, none⟩) 0 0) [] HOA.out (.slice (some ⟨g, 0, none⟩) k gc) (csd.take k) (HTA.out.below HBA.out) HCK.out HC1.out HBA.out.size (by have := HNK.out; rw [HLK.out]; unfold maxLen; simp <;> omega) (by have := HNK.out; rw [HLK.out]; simp <;> omega))
            have H4B := Lib.hid (step_append_h (((W2.alloc (.cells #[] 109)).alloc (.cells #[.slice p0 q0 r0, .int .u32 (x.ttl : Int), .int .i64 x.data.ty, .slice p3 q3 r3, .slice p4 q4 r4, .slice p5 q5 r5, .slice p6 q6 r6] 109)).drew) (.tmp 66) (.tmp 69) elem_ref (by decide) W2.heap.size (.slice (some ⟨W2.heap.size, 0, none⟩) 0 0) [] HOB.out (.slice (some ⟨g, 0, none⟩) k gc) (csd.take k) (HTA.out.below HBB.out) HCK.out HC1.out HBB.out.size (by have := HNK.out; rw [HLK.out]; unfold maxLen; simp <;> omega) (by have := HNK.out; rw [HLK.out]; simp <;> omega))
            have H4C := Lib.hid (step_append_h (((W2.alloc (.cells #[.slice p0 q0 r0, .int .u32 (x.ttl : Int), .int .i64 x.data.ty, .slice p3 q3 r3, .slice p4 q4 r4, .slice p5 q5 r5, .slice p6 q6 r6] 109)).alloc (.cells #[] 109)).drew) (.tmp 66) (.tmp 69) elem_ref (by decide) W2.heap.size (.slice (some ⟨W2.heap.size + 1, 0, none⟩) 0 0) [] HOC.out (.slice (some ⟨g, 0, none⟩) k gc) (csd.take k) (HTA.out.below HBC.out) HCK.out HC1.out HBC.out.size (by have := HNK.out; rw [HLK.out]; unfold maxLen; simp <;> omega) (by have := HNK.out; rw [HLK.out]; simp <;> omega))
            clear hsl3 hbd hbA hbB hbC hoC hkB
            go_wp2_with fail
            go_region_law (first
              | ((with_reducible refine H4A.out _ _ _ _ _ _ ?_ ?_ ?_ ?_ ?_); exact rfl; exact rfl; exact rfl; exact rfl; intro v4 w4 ho4 hg4; rw [List.nil_append] at ho4; have HO4 := Lib.hid ho4; have HB4 := Lib.hid (HBA.out.grown hg4 HBA.out.size (OwnK.base_le HOA.out)); have H10 := Lib.hid (step_append_h (w4.alloc (.cells #[.slice p0 q0 r0, .int .u32 (x.ttl : Int), .int .i64 x.data.ty, .slice p3 q3 r3, .slice p4 q4 r4, .slice p5 q5 r5, .slice p6 q6 r6] 109)) (.tmp 70) (.tmp 75) elem_ref (by decide) W2.heap.size v4 (csd.take k) (OwnK.alloc HO4.out _) (.slice (some ⟨w4.heap.size, 0, none⟩) 1 1) [[.slice p0 q0 r0, .int .u32 (x.ttl : Int), .int .i64 x.data.ty, .slice p3 q3 r3, .slice p4 q4 r4, .slice p5 q5 r5, .slice p6 q6 r6]] (slK_blk (css := [[.slice p0 q0 r0, .int .u32 (x.ttl : Int), .int .i64 x.data.ty, .slice p3 q3 r3, .slice p4 q4 r4, .slice p5 q5 r5, .slice p6 q6 r6]]) (knew w4 _)) HX7.out HX1.out (by have := HB4.out.size; simp <;> omega) (by have := HNK.out; rw [HLK.out]; unfold maxLen; simp <;> omega) (by have := HNK.out; rw [HLK.out]; simp <;> omega)); have H10B := Lib.hid (fun (w5 : World) (hg : World.grownBy (w4.alloc (.cells #[.slice p0 q0 r0, .int .u32 (x.ttl : Int), .int .i64 x.data.ty, .slice p3 q3 r3, .slice p4 q4 r4, .slice p5 q5 r5, .slice p6 q6 r6] 109)) w5 v4.ownBlock) => ((HB4.out.alloc HB4.out.size _).grown hg (by have := HB4.out.size; simp <;> omega) (OwnK.base_le HO4.out))); obtain ⟨e0, e1, e2, e3, e4, e5, e6⟩ := HE.out w4 (HB3.out.trans (HB4.out.mono HSZ.out)); clear ho4 hg4)
              | ((with_reducible refine H4B.out _ _ _ _ _ _ ?_ ?_ ?_ ?_ ?_); exact rfl; exact rfl; exact rfl; exact rfl; intro v4 w4 ho4 hg4; rw [List.nil_append] at ho4; have HO4 := Lib.hid ho4; have HB4 := Lib.hid (HBB.out.grown hg4 HBB.out.size (OwnK.base_le HOB.out)); have HBX := Lib.hid ((hg4.block (W2.heap.size + 1) (kblock_lt HKB.out) (by simp [Value.ownBlock])).trans HKB.out); have H10 := Lib.hid (step_append_h (w4) (.tmp 70) (.tmp 75) elem_ref (by decide) W2.heap.size v4 (csd.take k) (HO4.out) (.slice (some ⟨W2.heap.size + 1, 0, none⟩) 1 1) [[.slice p0 q0 r0, .int .u32 (x.ttl : Int), .int .i64 x.data.ty, .slice p3 q3 r3, .slice p4 q4 r4, .slice p5 q5 r5, .slice p6 q6 r6]] (slK_blk (css := [[.slice p0 q0 r0, .int .u32 (x.ttl : Int), .int .i64 x.data.ty, .slice p3 q3 r3, .slice p4 q4 r4, .slice p5 q5 r5, .slice p6 q6 r6]]) HBX.out) HX7.out HX1.out (HB4.out.size) (by have := HNK.out; rw [HLK.out]; unfold maxLen; simp <;> omega) (by have := HNK.out; rw [HLK.out]; simp <;> omega)); have H10B := Lib.hid (fun (w5 : World) (hg : World.grownBy (w4) w5 v4.ownBlock) => (HB4.out.grown hg HB4.out.size (OwnK.base_le HO4.out))); clear ho4 hg4)
              | ((with_reducible refine H4C.out _ _ _ _ _ _ ?_ ?_ ?_ ?_ ?_); exact rfl; exact rfl; exact rfl; exact rfl; intro v4 w4 ho4 hg4; rw [List.nil_append] at ho4; have HO4 := Lib.hid ho4; have HB4 := Lib.hid (HBC.out.grown hg4 HBC.out.size (OwnK.base_le HOC.out)); have HBX := Lib.hid ((hg4.block W2.heap.size (kblock_lt HKC.out) (by simp [Value.ownBlock])).trans HKC.out); have H10 := Lib.hid (step_append_h (w4) (.tmp 70) (.tmp 75) elem_ref (by decide) W2.heap.size v4 (csd.take k) (HO4.out) (.slice (some ⟨W2.heap.size, 0, none⟩) 1 1) [[.slice p0 q0 r0, .int .u32 (x.ttl : Int), .int .i64 x.data.ty, .slice p3 q3 r3, .slice p4 q4 r4, .slice p5 q5 r5, .slice p6 q6 r6]] (slK_blk (css := [[.slice p0 q0 r0, .int .u32 (x.ttl : Int), .int .i64 x.data.ty, .slice p3 q3 r3, .slice p4 q4 r4, .slice p5 q5 r5, .slice p6 q6 r6]]) HBX.out) HX7.out HX1.out (HB4.out.size) (by have := HNK.out; rw [HLK.out]; unfold maxLen; simp <;> omega) (by have := HNK.out; rw [HLK.out]; simp <;> omega)); have H10B := Lib.hid (fun (w5 : World) (hg : World.grownBy (w4) w5 v4.ownBlock) => (HB4.out.grown hg HB4.out.size (OwnK.base_le HO4.out))); clear ho4 hg4)
              | ((with_reducible refine H10.out _ _ _ _ _ _ ?_ ?_ ?_ ?_ ?_); exact rfl; exact rfl; exact rfl; exact rfl; intro v5 w5 ho5 hg5; have HO5 := Lib.hid ho5; have HB5 := Lib.hid (H10B.out w5 hg5); clear ho5 hg5))
            all_goals
              obtain ⟨a5, z5, e5⟩ := OwnK.shape HO5.out
              rw [List.length_append, HLK.out] at e5
              simp only [List.length_cons, List.length_nil, Nat.zero_add] at e5
              subst e5
              clear c0 c1 c2 c3 c4 c5 c6 d0 d1 d2 d3 d4 d5 d6
              by_cases hgk : gc = k
              · subst hgk
                have hdz : csd.drop gc = [] := List.eq_nil_of_length_eq_zero (by rw [HLD.out]; omega)
                have HTE := Lib.hid (show SlK W2 (.slice (some ⟨g, 0, none⟩) 0 0) (csd.drop gc) by rw [hdz]; exact ⟨_, _, rfl, Nat.le_refl _, (fun e => by cases e), .inl rfl⟩)
                clear hdz
                go_wp2_with (at_builtin; refine wpl_append_slk w5 rfl (.tmp 77) (.tmp 80) elem_ref (by decide) rfl W2.heap.size (.slice a5 _ z5) _ rfl HO5.out (.slice (some ⟨g, 0, none⟩) 0 0) (csd.drop gc) rfl (HTE.out.below HB5.out) HDK.out HD1.out HB5.out.size (by have := HNK.out; rw [List.length_append, HLK.out, HLD.out]; unfold maxLen; simp <;> omega) (by have := HNK.out; rw [List.length_append, HLK.out, HLD.out]; simp <;> omega) ?_; intro v6 w6 ho6 hg6)
                have HO6 := Lib.hid ho6
                have HB6 := Lib.hid (HB5.out.grown hg6 HB5.out.size (OwnK.base_le HO5.out))
                clear ho6 hg6
                obtain ⟨a6, c6, e6⟩ := OwnK.shape HO6.out
                have hl6 : (csd.take gc ++ ([[.slice p0 q0 r0, .int .u32 (x.ttl : Int), .int .i64 x.data.ty, .slice p3 q3 r3, .slice p4 q4 r4, .slice p5 q5 r5, .slice p6 q6 r6]] : List (List Value)) ++ csd.drop gc).length = m + 1 := by rw [List.length_append, List.length_append, HLK.out, HLD.out]; simp <;> omega
                rw [hl6] at e6
                subst e6
                go_roundg (n - (i + 1))
                case measure => omega
                case rel => exact ⟨i + 1, a6, m + 1, c6, _, _, rfl, by go_num, by omega, by omega, by omega, Lib.hid ⟨hl6, by rw [HST.out, HGAP.out]⟩, Lib.hid (OwnK.weaken HO6.out HSZ.out), Lib.hid (HRC.out.gap gc HX0.out), Lib.hid (HB3.out.trans (HB6.out.mono HSZ.out))⟩
              · have hgk2 : (k : Int) < (gc : Int) := by omega
                go_wp2_with (at_builtin; refine wpl_append_slk w5 rfl (.tmp 77) (.tmp 80) elem_ref (by decide) rfl W2.heap.size (.slice a5 _ z5) _ rfl HO5.out (.slice (some ⟨g, k * 7, none⟩) (m - k) (gc - k)) (csd.drop k) rfl (HTD.out.below HB5.out) HDK.out HD1.out HB5.out.size (by have := HNK.out; rw [List.length_append, HLK.out, HLD.out]; unfold maxLen; simp <;> omega) (by have := HNK.out; rw [List.length_append, HLK.out, HLD.out]; simp <;> omega) ?_; intro v6 w6 ho6 hg6)
                have HO6 := Lib.hid ho6
                have HB6 := Lib.hid (HB5.out.grown hg6 HB5.out.size (OwnK.base_le HO5.out))
                clear ho6 hg6
                obtain ⟨a6, c6, e6⟩ := OwnK.shape HO6.out
                have hl6 : (csd.take k ++ ([[.slice p0 q0 r0, .int .u32 (x.ttl : Int), .int .i64 x.data.ty, .slice p3 q3 r3, .slice p4 q4 r4, .slice p5 q5 r5, .slice p6 q6 r6]] : List (List Value)) ++ csd.drop k).length = m + 1 := by rw [List.length_append, List.length_append, HLK.out, HLD.out]; simp <;> omega
                rw [hl6] at e6
                subst e6
                go_roundg (n - (i + 1))
                case measure => omega
                case rel => exact ⟨i + 1, a6, m + 1, c6, _, _, rfl, by go_num, by omega, by omega, by omega, Lib.hid ⟨hl6, by rw [HST.out, HGAP.out]⟩, Lib.hid (OwnK.weaken HO6.out HSZ.out), Lib.hid (HRC.out.gap k HX0.out), Lib.hid (HB3.out.trans (HB6.out.mono HSZ.out))⟩
    · obtain rfl : i = n := by omega
      go_wp2
      go_ret
      have h := HRC.out
      rw [HL.out.2, List.take_of_length_le (by have := HLL.out; omega)] at h
      exact ⟨_, csd, rfl, HO.out, h, HB.out⟩
end Go.Proofs.YtckammgnmgkieaaGreat

