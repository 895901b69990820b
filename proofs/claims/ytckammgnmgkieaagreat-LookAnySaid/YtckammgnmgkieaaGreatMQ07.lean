import Derived.Test.YtckammgnmgkieaaGreatMQ06
namespace Go.Proofs.YtckammgnmgkieaaGreat
set_option maxRecDepth 100000
set_option maxHeartbeats 32000000
open Go.RowKit Go.Shelf
def qh1 (w0 w : World) (l : List Rc) (e : Ending) (w' : World) : Prop := ∃ v' csd, e = .returned v' ∧ OwnC 7 109 w' w.heap.size v' csd ∧ Rcs w0 csd (canonM l) ∧ Below w.heap.size w w'
theorem qfG (v : Value) (css : List (List Value)) (l : List Rc) (w0 w : World) (hA : SlK w v css) (hR : Rcs w0 css l) (hb0 : Below w0.heap.size w0 w) (hOK : ∀ r ∈ l, RcOK r) (hl : css.length ≤ 1000000) :
 Calls Tryz.prog 63 #[v] w (qh1 w0 w l) := by
 obtain ⟨a, c, rfl, hc1, -, -⟩ := id hA
 obtain ⟨n, hn⟩ : ∃ n, css.length = n := ⟨_, rfl⟩
 rw [hn] at hA hc1 hl ⊢
 have HB00 := qH0 hb0; have HA := qH0 hA; have HR := qH0 hR; have HOK := qH0 hOK; have HLN := qH0 hn
 have HLL := qH0 (show l.length = n by rw [← hn]; exact hR.1.symm)
 clear hA hR hOK hn hb0
 go_enter Tryz.func63, Tryz.ntmps63
 go_wp2
 go_loopg [3, 4] n (fun g1 vo vi wr => ∃ (i : Nat) (ga : Option Addr) (m gc : Nat) (csd : List (List Value)) (C : List Rc), vo = .slice ga m gc ∧ vi = .int .i64 i ∧ i ≤ n ∧ n - i ≤ g1 ∧ m ≤ i ∧ Hid (csd.length = m ∧ C = canonM (l.take i)) ∧ Hid (OwnC 7 109 wr w.heap.size (.slice ga m gc) csd) ∧ Hid (Rcs w0 csd C) ∧ Hid (Below w.heap.size w wr))
 case atStart => exact ⟨0, none, 0, 0, [], [], rfl, rfl, Nat.zero_le _, by omega, qN0, qH0 ⟨rfl, rfl⟩, qH0 (OwnK.nil _ _), qH0 ⟨rfl, fun i h => absurd h (by simp)⟩, qH0 (qL0)⟩
 case round =>
  obtain ⟨i, ga, m, gc, csd, C, rfl, rfl, hi, hg1, hmi, HL, HO, HRC, HB⟩ := hrel
  by_cases hlt : i < n
  ·have hltz : (i : Int) < (n : Int) := by omega
   have hi1 : i < css.length := by have := HLN.out; omega
   have hi2 : i < l.length := by have := HLL.out; omega
   obtain ⟨b, off, rfl, hb, hel⟩ := HA.out.elem HR.out.ck (by omega)
   have h0 := HR.out.2 i hi1 hi2
   have hokx := HOK.out _ (List.getElem_mem hi2)
   have hst := qiM hi2
   have hokc := qgN (l.take i) (fun r hr => HOK.out r (List.mem_of_mem_take hr))
   rw [← HL.out.2] at hst hokc
   obtain ⟨x, hx⟩ : ∃ r, l[i]'hi2 = r := ⟨_, rfl⟩
   rw [hx] at h0 hokx hst
   obtain ⟨⟨p0, q0, r0⟩, ⟨p3, q3, r3⟩, ⟨p4, q4, r4⟩, ⟨p5, q5, r5⟩, ⟨p6, q6, r6⟩, e0⟩ := h0.shape
   simp only at e0
   have HE := qH0 (fun W hb => hel i hi1 _ _ _ _ _ _ _ e0 W hb)
   rw [e0] at h0
   have HX0 := qH0 h0; have HOKX := qH0 hokx; have HST := qH0 hst; have HOKC := qH0 hokc
   have HLC := qH0 (show C.length = m by have := HRC.out.1; have := HL.out.1; omega)
   clear h0 hokx hst hokc hx e0 hel hi1 hi2
   go_wp2_with fail
   go_loopg [5] m (fun g2 vk wq => ∃ (wr2 : World) (k : Nat), wr2 = wq ∧ vk = .int .i64 k ∧ k ≤ m ∧ m - k ≤ g2 ∧ Hid (∀ j (h : j < C.length), j < k → qac C[j] x < 0) ∧ Hid (OwnC 7 109 wr2 w.heap.size (.slice ga m gc) csd) ∧ Hid (Below w.heap.size w wr2))
   case atStart => exact ⟨_, 0, rfl, rfl, Nat.zero_le _, by omega, qH0 (fun j h hj => absurd hj (Nat.not_lt_zero _)), HO, HB⟩
   case round =>
    obtain ⟨wr2, k, rfl, rfl, hk, hg2, HLS, HO2, HB2⟩ := hrel
    have hcl : (fun W => Below wr2.heap.size wr2 W) wr2.drew := ⟨rfl, rfl, rfl, qN0, fun _ _ => rfl⟩
    have hne : Nonempty (WIn (fun W => Below wr2.heap.size wr2 W)) := ⟨⟨_, hcl⟩⟩
    by_cases hkm : k < m
    ·have hkz : (k : Int) < (m : Int) := by omega
     have hkc : k < csd.length := by have := HL.out.1; omega
     have hkC : k < C.length := by have := HLC.out; omega
     rcases OwnC.some' HO2.out with ⟨-, e, -, -⟩ | ⟨g, cur, rfl, hgb, hgw, hmc, -⟩
     ·omega
     have hsl : SlK wr2 (.slice (some ⟨g, 0, none⟩) m gc) csd := SlK.of_own HO2.out HRC.out.ck
     obtain ⟨g', o', eg, hg', heo⟩ := hsl.elem HRC.out.ck (by omega)
     cases eg
     have h1 := HRC.out.2 k hkc hkC
     have hoky := HOKC.out _ (List.getElem_mem hkC)
     obtain ⟨y, hy⟩ : ∃ r, C[k]'hkC = r := ⟨_, rfl⟩
     have HY := qH0 hy
     rw [hy] at h1 hoky
     obtain ⟨⟨p0', q0', r0'⟩, ⟨p3', q3', r3'⟩, ⟨p4', q4', r4'⟩, ⟨p5', q5', r5'⟩, ⟨p6', q6', r6'⟩, e1⟩ := h1.shape
     simp only at e1
     have HYC := qH0 e1
     rw [e1] at h1
     have HY1 := qH0 h1; have HOKY := qH0 hoky
     have f0 := fun p : WIn (fun W => Below wr2.heap.size wr2 W) => HE.out p.w (HB2.out.trans (p.ok.mono HB2.out.size))
     have f1 := fun p : WIn (fun W => Below wr2.heap.size wr2 W) => heo k hkc _ _ _ _ _ _ _ e1 p.w p.ok
     simp only [Nat.zero_add] at f1
     have g0 := fun p => (f0 p).1; have g1' := fun p => (f0 p).2.1; have g2' := fun p => (f0 p).2.2.1; have g3 := fun p => (f0 p).2.2.2.1; have g4 := fun p => (f0 p).2.2.2.2.1; have g5 := fun p => (f0 p).2.2.2.2.2.1; have g6 := fun p => (f0 p).2.2.2.2.2.2
     have j0 := fun p => (f1 p).1; have j1 := fun p => (f1 p).2.1; have j2 := fun p => (f1 p).2.2.1; have j3 := fun p => (f1 p).2.2.2.1; have j4 := fun p => (f1 p).2.2.2.2.1; have j5 := fun p => (f1 p).2.2.2.2.2.1; have j6 := fun p => (f1 p).2.2.2.2.2.2
     have hcg := fun p : WIn (fun W => Below wr2.heap.size wr2 W) => Calls.cls (C := (fun W => Below wr2.heap.size wr2 W)) ((qdm _ _ _ _ p.w (h1.below (HB00.out.trans ((HB2.out.trans (p.ok.mono HB2.out.size)).mono HB00.out.size))) (HX0.out.below (HB00.out.trans ((HB2.out.trans (p.ok.mono HB2.out.size)).mono HB00.out.size))) hoky HOKX.out).mono fun _ _ ⟨hq, hb⟩ => ⟨hq, p.ok.trans (hb.mono p.ok.size)⟩)
     have hcs := fun p : WIn (fun W => Below wr2.heap.size wr2 W) => Calls.cls (C := (fun W => Below wr2.heap.size wr2 W)) ((qiT _ _ _ _ p.w (h1.below (HB00.out.trans ((HB2.out.trans (p.ok.mono HB2.out.size)).mono HB00.out.size))) (HX0.out.below (HB00.out.trans ((HB2.out.trans (p.ok.mono HB2.out.size)).mono HB00.out.size))) hoky HOKX.out).mono fun _ _ ⟨hq, hb⟩ => ⟨hq, p.ok.trans (hb.mono p.ok.size)⟩)
     obtain ⟨cv, hcv⟩ : ∃ s, qac y x = s := ⟨_, rfl⟩
     obtain ⟨sv, hsv⟩ : ∃ s, sameR y x = s := ⟨_, rfl⟩
     rw [hcv] at hcg
     rw [hsv] at hcs
     have HCV := qH0 hcv
     have HSV := qH0 (show sv = (cv == 0) by rw [← hsv, ← hcv]; rfl)
     have HGW := qH0 (show w.heap.size ≤ g ∧ wr2.heap[g]? = some (.cells cur 109) from ⟨hgb, hgw⟩)
     obtain ⟨ty, hty⟩ : ∃ t, y.ttl = t := ⟨_, rfl⟩
     rw [hty] at j1 hcg hcs HYC HY1
     have HTY := qH0 hty
     clear h1 hoky hy e1 f0 f1 hsl heo hg' hgb hgw hcv hsv hty
     by_cases hcmp : cv < 0
     ·go_wp2_with fail
      refine qaf (fun W => Below wr2.heap.size wr2 W) qae (by kernel_rfl) hcl ?_
      repeat (go_big_quiet_step (exact hcg _))
      refine wpQuiet_nil ?_
      rintro _ ⟨p, rfl⟩
      have HP := qH0 p.ok
      clear g0 g1' g2' g3 g4 g5 g6 j0 j1 j2 j3 j4 j5 j6 hcg hcs
      go_wp2
      go_roundg (m - (k + 1))
      case measure => omega
      case rel => exact ⟨_, k + 1, rfl, by go_num, by omega, by omega, qH0 (fun j h hj => by
       by_cases e : j < k
       ·exact HLS.out j h e
       ·obtain rfl : j = k := by omega
        rw [HY.out, HCV.out]; exact hcmp), qH0 (OwnK.below HO2.out HP.out), qH0 (qB0 HB2.out HP.out)⟩
     ·go_wp2_with fail
      refine qaf (fun W => Below wr2.heap.size wr2 W) qae (by kernel_rfl) hcl ?_
      repeat (go_big_quiet_step (exact hcg _))
      refine wpQuiet_nil ?_
      rintro _ ⟨p, rfl⟩
      have hcl2 : (fun W => Below wr2.heap.size wr2 W) p.w.drew := p.ok.trans ⟨rfl, rfl, rfl, qN0, fun _ _ => rfl⟩
      clear hcg
      by_cases heq : cv = 0
      ·have hsv1 : sv = true := by rw [HSV.out, heq]; rfl
       subst hsv1
       go_wp2_with fail
       refine qaf (fun W => Below wr2.heap.size wr2 W) qae (by kernel_rfl) hcl2 ?_
       repeat (go_big_quiet_step (exact hcs _))
       refine wpQuiet_nil ?_
       rintro _ ⟨p2, rfl⟩
       have hcl3 : (fun W => Below wr2.heap.size wr2 W) p2.w.drew := p2.ok.trans ⟨rfl, rfl, rfl, qN0, fun _ _ => rfl⟩
       have HHIT := qH0 (qhA x k C (by have := HLC.out; omega) HLS.out (by rw [HY.out, HCV.out]; exact heq))
       clear hcs
       by_cases hlx : x.ttl < ty
       ·have hlxz : (x.ttl : Int) < (ty : Int) := by omega
        go_wp2_with fail
        refine qaf (fun W => Below wr2.heap.size wr2 W) qae (by kernel_rfl) hcl3 ?_
        repeat (go_big_quiet_step (fail))
        refine wpQuiet_nil ?_
        rintro _ ⟨p3, rfl⟩
        have HP := qH0 p3.ok
        have hkc2 : k < csd.length := by have := HL.out.1; omega
        have hg3 := (HP.out.block _ (qaa HGW.out.2)).trans HGW.out.2
        have hfz := qab hg3 (k * 7 + 1)
        have s1 := g1' p3
        have s2 := j1 p3
        have HPUT := qH0 (OwnC.put (OwnK.below HO2.out HP.out) HRC.out.ck k hkc2 1 (by decide) (.int .u32 (x.ttl : Int)))
        have HRS := qH0 (HRC.out.set k (RcAt.withTTL x.ttl HY1.out))
        have HCE := qH0 (show csd[k].set 1 (.int .u32 (x.ttl : Int)) = [.slice p0' q0' r0', .int .u32 (x.ttl : Int), .int .i64 y.data.ty, .slice p3' q3' r3', .slice p4' q4' r4', .slice p5' q5' r5', .slice p6' q6' r6'] by rw [HYC.out]; rfl)
        rw [HCE.out] at HPUT
        have HEND := qH0 (show canonM (l.take (i + 1)) = C.set k ⟨y.owner, x.ttl, y.data⟩ by
         rw [HST.out, HHIT.out]
         have e : (⟨C[k].owner, minT C[k].ttl x.ttl, C[k].data⟩ : Rc) = ⟨y.owner, x.ttl, y.data⟩ := by
          rw [HY.out, qjj (by rw [HTY.out]; exact hlx)]
         rw [e])
        have HGB := qH0 HGW.out.1
        clear g0 g1' g2' g3 g4 g5 g6 j0 j1 j2 j3 j4 j5 j6 hg3
        generalize p3.w = W3 at *
        go_wp2
        go_roundg (n - (i + 1))
        case measure => omega
        case rel => exact ⟨i + 1, _, m, gc, _, _, rfl, by go_num, by omega, by omega, by omega, qH0 ⟨by rw [List.length_set]; exact HL.out.1, HEND.out.symm⟩, HPUT, HRS, qH0 ((qB0 HB2.out HP.out).setCell (p := ⟨g, k * 7 + 1, none⟩) HGB.out _)⟩
       ·have hlxz : ¬ (x.ttl : Int) < (ty : Int) := by omega
        go_wp2_with fail
        refine qaf (fun W => Below wr2.heap.size wr2 W) qae (by kernel_rfl) hcl3 ?_
        repeat (go_big_quiet_step (fail))
        refine wpQuiet_nil ?_
        rintro _ ⟨p3, rfl⟩
        have HP := qH0 p3.ok
        have HEND := qH0 (show canonM (l.take (i + 1)) = C by
         rw [HST.out, HHIT.out]
         have e : (⟨(C[k]'(by have := HLC.out; omega)).owner, minT (C[k]'(by have := HLC.out; omega)).ttl x.ttl, (C[k]'(by have := HLC.out; omega)).data⟩ : Rc) = C[k]'(by have := HLC.out; omega) := by
          rw [HY.out, qi8 (by rw [HTY.out]; exact hlx)]
         rw [e, List.set_getElem_self])
        clear g0 g1' g2' g3 g4 g5 g6 j0 j1 j2 j3 j4 j5 j6
        go_wp2
        go_roundg (n - (i + 1))
        case measure => omega
        case rel => exact ⟨i + 1, _, m, gc, csd, C, rfl, by go_num, by omega, by omega, by omega, qH0 ⟨HL.out.1, HEND.out.symm⟩, qH0 (OwnK.below HO2.out HP.out), HRC, qH0 (qB0 HB2.out HP.out)⟩
      ·have hsv0 : sv = false := by rw [HSV.out]; simpa using heq
       subst hsv0
       go_wp2_with fail
       refine qaf (fun W => Below wr2.heap.size wr2 W) qae (by kernel_rfl) hcl2 ?_
       repeat (go_big_quiet_step (exact hcs _))
       refine wpQuiet_nil ?_
       rintro _ ⟨p2, rfl⟩
       have HGAP := qH0 (qfh x k C (by have := HLC.out; omega) HLS.out (fun h => by rw [HY.out, HCV.out]; omega))
       have HP2 := qH0 p2.ok
       have hmc2 := hmc
       clear g0 g1' g2' g3 g4 g5 g6 j0 j1 j2 j3 j4 j5 j6 hcs hmc
       have HB3 := qH0 (qB0 HB2.out HP2.out)
       have HO3 := qH0 (OwnK.below HO2.out HP2.out)
       clear hcl hcl2 hne
       generalize p2.w = W2 at *
       have hsz := HB3.out.size
       have HSZ := qH0 hsz
       have hsl3 : SlK W2 (.slice (some ⟨g, 0, none⟩) m gc) csd := SlK.of_own HO3.out HRC.out.ck
       have HTA := qH0 (hsl3.takeK k hk)
       have htd := hsl3.dropK HRC.out.ck k hk
       rw [Nat.zero_add] at htd
       have HTD := qH0 htd
       have HLK := qH0 (show (csd.take k).length = k by rw [List.length_take]; have := HL.out.1; omega)
       have HLD := qH0 (show (csd.drop k).length = m - k by rw [List.length_drop]; have := HL.out.1; omega)
       have HCK := qH0 (fun cs (h : cs ∈ csd.take k) => HRC.out.ck cs (List.mem_of_mem_take h))
       have HC1 := qH0 (fun cs (h : cs ∈ csd.take k) => one7 HRC.out cs (List.mem_of_mem_take h))
       have HDK := qH0 (fun cs (h : cs ∈ csd.drop k) => HRC.out.ck cs (List.mem_of_mem_drop h))
       have HD1 := qH0 (fun cs (h : cs ∈ csd.drop k) => one7 HRC.out cs (List.mem_of_mem_drop h))
       have HX7 := qH0 (show ∀ cs ∈ ([[.slice p0 q0 r0, .int .u32 (x.ttl : Int), .int .i64 x.data.ty, .slice p3 q3 r3, .slice p4 q4 r4, .slice p5 q5 r5, .slice p6 q6 r6]] : List (List Value)), cs.length = 7 by intro cs hc; rw [List.mem_singleton] at hc; subst hc; rfl)
       have HX1 := qH0 (show ∀ cs ∈ ([[.slice p0 q0 r0, .int .u32 (x.ttl : Int), .int .i64 x.data.ty, .slice p3 q3 r3, .slice p4 q4 r4, .slice p5 q5 r5, .slice p6 q6 r6]] : List (List Value)), ∀ u ∈ cs, u.oneCell' = true by
        intro cs hc u hu; rw [List.mem_singleton] at hc; subst hc; exact HX0.out.one u hu)
       have hbd : Below W2.heap.size W2 W2.drew := ⟨rfl, rfl, rfl, qN0, fun _ _ => rfl⟩
       have hbA : Below W2.heap.size W2 (W2.alloc (.cells #[] 109)).drew := hbd.alloc (qN0) _
       have hbB : Below W2.heap.size W2 ((W2.alloc (.cells #[] 109)).alloc (.cells #[.slice p0 q0 r0, .int .u32 (x.ttl : Int), .int .i64 x.data.ty, .slice p3 q3 r3, .slice p4 q4 r4, .slice p5 q5 r5, .slice p6 q6 r6] 109)).drew := hbA.alloc (by simp) _
       have hbC : Below W2.heap.size W2 ((W2.alloc (.cells #[.slice p0 q0 r0, .int .u32 (x.ttl : Int), .int .i64 x.data.ty, .slice p3 q3 r3, .slice p4 q4 r4, .slice p5 q5 r5, .slice p6 q6 r6] 109)).alloc (.cells #[] 109)).drew := (hbd.alloc (qN0) _).alloc (by simp) _
       have HBA := qH0 hbA; have HBB := qH0 hbB; have HBC := qH0 hbC
       have HOA := qH0 (show OwnC 7 109 ((W2.alloc (.cells #[] 109)).drew) W2.heap.size (.slice (some ⟨W2.heap.size, 0, none⟩) 0 0) [] from qaB 7 109 W2.drew)
       have HOB := qH0 (show OwnC 7 109 (((W2.alloc (.cells #[] 109)).alloc (.cells #[.slice p0 q0 r0, .int .u32 (x.ttl : Int), .int .i64 x.data.ty, .slice p3 q3 r3, .slice p4 q4 r4, .slice p5 q5 r5, .slice p6 q6 r6] 109)).drew) W2.heap.size (.slice (some ⟨W2.heap.size, 0, none⟩) 0 0) [] from OwnK.alloc (qaB 7 109 W2.drew) _)
       have hoC := qaB 7 109 (W2.drew.alloc (.cells #[.slice p0 q0 r0, .int .u32 (x.ttl : Int), .int .i64 x.data.ty, .slice p3 q3 r3, .slice p4 q4 r4, .slice p5 q5 r5, .slice p6 q6 r6] 109))
       rw [World.size_alloc] at hoC
       have HOC := qH0 (show OwnC 7 109 (((W2.alloc (.cells #[.slice p0 q0 r0, .int .u32 (x.ttl : Int), .int .i64 x.data.ty, .slice p3 q3 r3, .slice p4 q4 r4, .slice p5 q5 r5, .slice p6 q6 r6] 109)).alloc (.cells #[] 109)).drew) W2.heap.size (.slice (some ⟨W2.heap.size + 1, 0, none⟩) 0 0) [] from OwnK.weaken hoC (by show W2.heap.size ≤ W2.heap.size + 1; omega))
       have hkB := knew (W2.drew.alloc (.cells #[] 109)) (.cells #[.slice p0 q0 r0, .int .u32 (x.ttl : Int), .int .i64 x.data.ty, .slice p3 q3 r3, .slice p4 q4 r4, .slice p5 q5 r5, .slice p6 q6 r6] 109)
       rw [World.size_alloc] at hkB
       have HKB := qH0 (show ((W2.alloc (.cells #[] 109)).alloc (.cells #[.slice p0 q0 r0, .int .u32 (x.ttl : Int), .int .i64 x.data.ty, .slice p3 q3 r3, .slice p4 q4 r4, .slice p5 q5 r5, .slice p6 q6 r6] 109)).drew.heap[W2.heap.size + 1]? = some (.cells #[.slice p0 q0 r0, .int .u32 (x.ttl : Int), .int .i64 x.data.ty, .slice p3 q3 r3, .slice p4 q4 r4, .slice p5 q5 r5, .slice p6 q6 r6] 109) from hkB)
       have HKC := qH0 (show ((W2.alloc (.cells #[.slice p0 q0 r0, .int .u32 (x.ttl : Int), .int .i64 x.data.ty, .slice p3 q3 r3, .slice p4 q4 r4, .slice p5 q5 r5, .slice p6 q6 r6] 109)).alloc (.cells #[] 109)).drew.heap[W2.heap.size]? = some (.cells #[.slice p0 q0 r0, .int .u32 (x.ttl : Int), .int .i64 x.data.ty, .slice p3 q3 r3, .slice p4 q4 r4, .slice p5 q5 r5, .slice p6 q6 r6] 109) from (Below.heap_alloc (W2.drew.alloc (.cells #[.slice p0 q0 r0, .int .u32 (x.ttl : Int), .int .i64 x.data.ty, .slice p3 q3 r3, .slice p4 q4 r4, .slice p5 q5 r5, .slice p6 q6 r6] 109)) (.cells #[] 109) W2.heap.size (by simp)).trans (knew W2.drew (.cells #[.slice p0 q0 r0, .int .u32 (x.ttl : Int), .int .i64 x.data.ty, .slice p3 q3 r3, .slice p4 q4 r4, .slice p5 q5 r5, .slice p6 q6 r6] 109)))
       obtain ⟨c0, c1, c2, c3, c4, c5, c6⟩ := HE.out W2.drew (HB3.out.trans (hbd.mono hsz))
       obtain ⟨d0, d1, d2, d3, d4, d5, d6⟩ := HE.out ((W2.alloc (.cells #[] 109)).drew) (HB3.out.trans (hbA.mono hsz))
       have hk0 : (0 : Int) ≤ (k : Int) := by omega
       have hkm1 : (k : Int) ≤ (m : Int) := by omega
       have hkc1 : (k : Int) ≤ (gc : Int) := by omega
       have hmc1 : (m : Int) ≤ (gc : Int) := by omega
       have HNK := qH0 (show k ≤ 1000000 ∧ m ≤ 1000000 by omega)
       have H4A := qH0 (qag ((W2.alloc (.cells #[] 109)).drew) (.tmp 66) (.tmp 69) qat (by decide) W2.heap.size (.slice (some ⟨W2.heap.size, 0, none⟩) 0 0) [] HOA.out (.slice (some ⟨g, 0, none⟩) k gc) (csd.take k) (HTA.out.below HBA.out) HCK.out HC1.out HBA.out.size (by have := HNK.out; rw [HLK.out]; unfold maxLen; simp <;> omega) (by have := HNK.out; rw [HLK.out]; simp <;> omega))
       have H4B := qH0 (qag (((W2.alloc (.cells #[] 109)).alloc (.cells #[.slice p0 q0 r0, .int .u32 (x.ttl : Int), .int .i64 x.data.ty, .slice p3 q3 r3, .slice p4 q4 r4, .slice p5 q5 r5, .slice p6 q6 r6] 109)).drew) (.tmp 66) (.tmp 69) qat (by decide) W2.heap.size (.slice (some ⟨W2.heap.size, 0, none⟩) 0 0) [] HOB.out (.slice (some ⟨g, 0, none⟩) k gc) (csd.take k) (HTA.out.below HBB.out) HCK.out HC1.out HBB.out.size (by have := HNK.out; rw [HLK.out]; unfold maxLen; simp <;> omega) (by have := HNK.out; rw [HLK.out]; simp <;> omega))
       have H4C := qH0 (qag (((W2.alloc (.cells #[.slice p0 q0 r0, .int .u32 (x.ttl : Int), .int .i64 x.data.ty, .slice p3 q3 r3, .slice p4 q4 r4, .slice p5 q5 r5, .slice p6 q6 r6] 109)).alloc (.cells #[] 109)).drew) (.tmp 66) (.tmp 69) qat (by decide) W2.heap.size (.slice (some ⟨W2.heap.size + 1, 0, none⟩) 0 0) [] HOC.out (.slice (some ⟨g, 0, none⟩) k gc) (csd.take k) (HTA.out.below HBC.out) HCK.out HC1.out HBC.out.size (by have := HNK.out; rw [HLK.out]; unfold maxLen; simp <;> omega) (by have := HNK.out; rw [HLK.out]; simp <;> omega))
       clear hsl3 hbd hbA hbB hbC hoC hkB
       go_wp2_with fail
       go_region_law (first
        | ((with_reducible refine H4A.out _ _ _ _ _ _ ?_ ?_ ?_ ?_ ?_); exact rfl; exact rfl; exact rfl; exact rfl; intro v4 w4 ho4 hg4; rw [List.nil_append] at ho4; have HO4 := qH0 ho4; have HB4 := qH0 (HBA.out.grown hg4 HBA.out.size (OwnK.base_le HOA.out)); have H10 := qH0 (qag (w4.alloc (.cells #[.slice p0 q0 r0, .int .u32 (x.ttl : Int), .int .i64 x.data.ty, .slice p3 q3 r3, .slice p4 q4 r4, .slice p5 q5 r5, .slice p6 q6 r6] 109)) (.tmp 70) (.tmp 75) qat (by decide) W2.heap.size v4 (csd.take k) (OwnK.alloc HO4.out _) (.slice (some ⟨w4.heap.size, 0, none⟩) 1 1) [[.slice p0 q0 r0, .int .u32 (x.ttl : Int), .int .i64 x.data.ty, .slice p3 q3 r3, .slice p4 q4 r4, .slice p5 q5 r5, .slice p6 q6 r6]] (qaH (css := [[.slice p0 q0 r0, .int .u32 (x.ttl : Int), .int .i64 x.data.ty, .slice p3 q3 r3, .slice p4 q4 r4, .slice p5 q5 r5, .slice p6 q6 r6]]) (knew w4 _)) HX7.out HX1.out (by have := HB4.out.size; simp <;> omega) (by have := HNK.out; rw [HLK.out]; unfold maxLen; simp <;> omega) (by have := HNK.out; rw [HLK.out]; simp <;> omega)); have H10B := qH0 (fun (w5 : World) (hg : World.grownBy (w4.alloc (.cells #[.slice p0 q0 r0, .int .u32 (x.ttl : Int), .int .i64 x.data.ty, .slice p3 q3 r3, .slice p4 q4 r4, .slice p5 q5 r5, .slice p6 q6 r6] 109)) w5 v4.ownBlock) => ((HB4.out.alloc HB4.out.size _).grown hg (by have := HB4.out.size; simp <;> omega) (OwnK.base_le HO4.out))); obtain ⟨e0, e1, e2, e3, e4, e5, e6⟩ := HE.out w4 (HB3.out.trans (HB4.out.mono HSZ.out)); clear ho4 hg4)
        | ((with_reducible refine H4B.out _ _ _ _ _ _ ?_ ?_ ?_ ?_ ?_); exact rfl; exact rfl; exact rfl; exact rfl; intro v4 w4 ho4 hg4; rw [List.nil_append] at ho4; have HO4 := qH0 ho4; have HB4 := qH0 (HBB.out.grown hg4 HBB.out.size (OwnK.base_le HOB.out)); have HBX := qH0 ((hg4.block (W2.heap.size + 1) (qaa HKB.out) (by simp [Value.ownBlock])).trans HKB.out); have H10 := qH0 (qag (w4) (.tmp 70) (.tmp 75) qat (by decide) W2.heap.size v4 (csd.take k) (HO4.out) (.slice (some ⟨W2.heap.size + 1, 0, none⟩) 1 1) [[.slice p0 q0 r0, .int .u32 (x.ttl : Int), .int .i64 x.data.ty, .slice p3 q3 r3, .slice p4 q4 r4, .slice p5 q5 r5, .slice p6 q6 r6]] (qaH (css := [[.slice p0 q0 r0, .int .u32 (x.ttl : Int), .int .i64 x.data.ty, .slice p3 q3 r3, .slice p4 q4 r4, .slice p5 q5 r5, .slice p6 q6 r6]]) HBX.out) HX7.out HX1.out (HB4.out.size) (by have := HNK.out; rw [HLK.out]; unfold maxLen; simp <;> omega) (by have := HNK.out; rw [HLK.out]; simp <;> omega)); have H10B := qH0 (fun (w5 : World) (hg : World.grownBy (w4) w5 v4.ownBlock) => (HB4.out.grown hg HB4.out.size (OwnK.base_le HO4.out))); clear ho4 hg4)
        | ((with_reducible refine H4C.out _ _ _ _ _ _ ?_ ?_ ?_ ?_ ?_); exact rfl; exact rfl; exact rfl; exact rfl; intro v4 w4 ho4 hg4; rw [List.nil_append] at ho4; have HO4 := qH0 ho4; have HB4 := qH0 (HBC.out.grown hg4 HBC.out.size (OwnK.base_le HOC.out)); have HBX := qH0 ((hg4.block W2.heap.size (qaa HKC.out) (by simp [Value.ownBlock])).trans HKC.out); have H10 := qH0 (qag (w4) (.tmp 70) (.tmp 75) qat (by decide) W2.heap.size v4 (csd.take k) (HO4.out) (.slice (some ⟨W2.heap.size, 0, none⟩) 1 1) [[.slice p0 q0 r0, .int .u32 (x.ttl : Int), .int .i64 x.data.ty, .slice p3 q3 r3, .slice p4 q4 r4, .slice p5 q5 r5, .slice p6 q6 r6]] (qaH (css := [[.slice p0 q0 r0, .int .u32 (x.ttl : Int), .int .i64 x.data.ty, .slice p3 q3 r3, .slice p4 q4 r4, .slice p5 q5 r5, .slice p6 q6 r6]]) HBX.out) HX7.out HX1.out (HB4.out.size) (by have := HNK.out; rw [HLK.out]; unfold maxLen; simp <;> omega) (by have := HNK.out; rw [HLK.out]; simp <;> omega)); have H10B := qH0 (fun (w5 : World) (hg : World.grownBy (w4) w5 v4.ownBlock) => (HB4.out.grown hg HB4.out.size (OwnK.base_le HO4.out))); clear ho4 hg4)
        | ((with_reducible refine H10.out _ _ _ _ _ _ ?_ ?_ ?_ ?_ ?_); exact rfl; exact rfl; exact rfl; exact rfl; intro v5 w5 ho5 hg5; have HO5 := qH0 ho5; have HB5 := qH0 (H10B.out w5 hg5); clear ho5 hg5))
       all_goals
        obtain ⟨a5, z5, e5⟩ := OwnK.shape HO5.out
        rw [List.length_append, HLK.out] at e5
        simp only [List.length_cons, List.length_nil, Nat.zero_add] at e5
        subst e5
        clear c0 c1 c2 c3 c4 c5 c6 d0 d1 d2 d3 d4 d5 d6
        go_wp2_with (at_builtin; refine qaN w5 rfl (.tmp 77) (.tmp 80) qat (by decide) rfl W2.heap.size (.slice a5 _ z5) _ rfl HO5.out (.slice (some ⟨g, k * 7, none⟩) (m - k) (gc - k)) (csd.drop k) rfl (HTD.out.below HB5.out) HDK.out HD1.out HB5.out.size (by have := HNK.out; rw [List.length_append, HLK.out, HLD.out]; unfold maxLen; simp <;> omega) (by have := HNK.out; rw [List.length_append, HLK.out, HLD.out]; simp <;> omega) ?_; intro v6 w6 ho6 hg6)
        have HO6 := qH0 ho6
        have HB6 := qH0 (HB5.out.grown hg6 HB5.out.size (OwnK.base_le HO5.out))
        clear ho6 hg6
        obtain ⟨a6, c6, e6⟩ := OwnK.shape HO6.out
        have hl6 : (csd.take k ++ ([[.slice p0 q0 r0, .int .u32 (x.ttl : Int), .int .i64 x.data.ty, .slice p3 q3 r3, .slice p4 q4 r4, .slice p5 q5 r5, .slice p6 q6 r6]] : List (List Value)) ++ csd.drop k).length = m + 1 := by rw [List.length_append, List.length_append, HLK.out, HLD.out]; simp <;> omega
        rw [hl6] at e6
        subst e6
        go_roundg (n - (i + 1))
        case measure => omega
        case rel => exact ⟨i + 1, a6, m + 1, c6, _, _, rfl, by go_num, by omega, by omega, by omega, qH0 ⟨hl6, by rw [HST.out, HGAP.out]⟩, qH0 (OwnK.weaken HO6.out HSZ.out), qH0 (HRC.out.gap k HX0.out), qH0 (HB3.out.trans (HB6.out.mono HSZ.out))⟩
    ·have hkz : ¬ (k : Int) < (m : Int) := by omega
     have HGAP := qH0 (qfh x k C (by have := HLC.out; omega) HLS.out (fun h => by have := HLC.out; omega))
     go_wp2_with fail
     refine qaf (fun W => Below wr2.heap.size wr2 W) qae (by kernel_rfl) hcl ?_
     repeat (go_big_quiet_step (fail))
     refine wpQuiet_nil ?_
     rintro _ ⟨p, rfl⟩
     have hcl2 : (fun W => Below wr2.heap.size wr2 W) p.w.drew := p.ok.trans ⟨rfl, rfl, rfl, qN0, fun _ _ => rfl⟩
     go_wp2_with fail
     refine qaf (fun W => Below wr2.heap.size wr2 W) qae (by kernel_rfl) hcl2 ?_
     repeat (go_big_quiet_step (fail))
     refine wpQuiet_nil ?_
     rintro _ ⟨p2, rfl⟩
     have HP2 := qH0 p2.ok
     rcases OwnC.some' HO2.out with ⟨rfl, rfl, rfl, rfl⟩ | ⟨g, cur, rfl, hgb, hgw, hmc2, -⟩
     ·obtain rfl : k = 0 := by omega
      have HB3 := qH0 (qB0 HB2.out HP2.out)
      have HO3 := qH0 (OwnK.below HO2.out HP2.out)
      clear hcl hcl2 hne
      generalize p2.w = W2 at *
      have hsz := HB3.out.size
      have HSZ := qH0 hsz
      have hsl3 : SlK W2 (.slice none 0 0) [] := SlK.of_own HO3.out HRC.out.ck
      have HTA := qH0 hsl3
      have HTD := qH0 (show SlK W2 (.slice none 0 0) ([] : List (List Value)) from SlK.nil W2)
      have HLK := qH0 (show (([] : List (List Value))).length = 0 from rfl)
      have HLD := qH0 (show (([] : List (List Value))).length = 0 - 0 from rfl)
      have HCK := qH0 (show ∀ cs ∈ ([] : List (List Value)), cs.length = 7 from fun cs h => absurd h (by simp))
      have HC1 := qH0 (show ∀ cs ∈ ([] : List (List Value)), ∀ u ∈ cs, u.oneCell' = true from fun cs h => absurd h (by simp))
      have HDK := qH0 (show ∀ cs ∈ ([] : List (List Value)), cs.length = 7 from fun cs h => absurd h (by simp))
      have HD1 := qH0 (show ∀ cs ∈ ([] : List (List Value)), ∀ u ∈ cs, u.oneCell' = true from fun cs h => absurd h (by simp))
      have HX7 := qH0 (show ∀ cs ∈ ([[.slice p0 q0 r0, .int .u32 (x.ttl : Int), .int .i64 x.data.ty, .slice p3 q3 r3, .slice p4 q4 r4, .slice p5 q5 r5, .slice p6 q6 r6]] : List (List Value)), cs.length = 7 by intro cs hc; rw [List.mem_singleton] at hc; subst hc; rfl)
      have HX1 := qH0 (show ∀ cs ∈ ([[.slice p0 q0 r0, .int .u32 (x.ttl : Int), .int .i64 x.data.ty, .slice p3 q3 r3, .slice p4 q4 r4, .slice p5 q5 r5, .slice p6 q6 r6]] : List (List Value)), ∀ u ∈ cs, u.oneCell' = true by
       intro cs hc u hu; rw [List.mem_singleton] at hc; subst hc; exact HX0.out.one u hu)
      have hbd : Below W2.heap.size W2 W2.drew := ⟨rfl, rfl, rfl, qN0, fun _ _ => rfl⟩
      have hbA : Below W2.heap.size W2 (W2.alloc (.cells #[] 109)).drew := hbd.alloc (qN0) _
      have hbB : Below W2.heap.size W2 ((W2.alloc (.cells #[] 109)).alloc (.cells #[.slice p0 q0 r0, .int .u32 (x.ttl : Int), .int .i64 x.data.ty, .slice p3 q3 r3, .slice p4 q4 r4, .slice p5 q5 r5, .slice p6 q6 r6] 109)).drew := hbA.alloc (by simp) _
      have hbC : Below W2.heap.size W2 ((W2.alloc (.cells #[.slice p0 q0 r0, .int .u32 (x.ttl : Int), .int .i64 x.data.ty, .slice p3 q3 r3, .slice p4 q4 r4, .slice p5 q5 r5, .slice p6 q6 r6] 109)).alloc (.cells #[] 109)).drew := (hbd.alloc (qN0) _).alloc (by simp) _
      have HBA := qH0 hbA; have HBB := qH0 hbB; have HBC := qH0 hbC
      have HOA := qH0 (show OwnC 7 109 ((W2.alloc (.cells #[] 109)).drew) W2.heap.size (.slice (some ⟨W2.heap.size, 0, none⟩) 0 0) [] from qaB 7 109 W2.drew)
      have HOB := qH0 (show OwnC 7 109 (((W2.alloc (.cells #[] 109)).alloc (.cells #[.slice p0 q0 r0, .int .u32 (x.ttl : Int), .int .i64 x.data.ty, .slice p3 q3 r3, .slice p4 q4 r4, .slice p5 q5 r5, .slice p6 q6 r6] 109)).drew) W2.heap.size (.slice (some ⟨W2.heap.size, 0, none⟩) 0 0) [] from OwnK.alloc (qaB 7 109 W2.drew) _)
      have hoC := qaB 7 109 (W2.drew.alloc (.cells #[.slice p0 q0 r0, .int .u32 (x.ttl : Int), .int .i64 x.data.ty, .slice p3 q3 r3, .slice p4 q4 r4, .slice p5 q5 r5, .slice p6 q6 r6] 109))
      rw [World.size_alloc] at hoC
      have HOC := qH0 (show OwnC 7 109 (((W2.alloc (.cells #[.slice p0 q0 r0, .int .u32 (x.ttl : Int), .int .i64 x.data.ty, .slice p3 q3 r3, .slice p4 q4 r4, .slice p5 q5 r5, .slice p6 q6 r6] 109)).alloc (.cells #[] 109)).drew) W2.heap.size (.slice (some ⟨W2.heap.size + 1, 0, none⟩) 0 0) [] from OwnK.weaken hoC (by show W2.heap.size ≤ W2.heap.size + 1; omega))
      have hkB := knew (W2.drew.alloc (.cells #[] 109)) (.cells #[.slice p0 q0 r0, .int .u32 (x.ttl : Int), .int .i64 x.data.ty, .slice p3 q3 r3, .slice p4 q4 r4, .slice p5 q5 r5, .slice p6 q6 r6] 109)
      rw [World.size_alloc] at hkB
      have HKB := qH0 (show ((W2.alloc (.cells #[] 109)).alloc (.cells #[.slice p0 q0 r0, .int .u32 (x.ttl : Int), .int .i64 x.data.ty, .slice p3 q3 r3, .slice p4 q4 r4, .slice p5 q5 r5, .slice p6 q6 r6] 109)).drew.heap[W2.heap.size + 1]? = some (.cells #[.slice p0 q0 r0, .int .u32 (x.ttl : Int), .int .i64 x.data.ty, .slice p3 q3 r3, .slice p4 q4 r4, .slice p5 q5 r5, .slice p6 q6 r6] 109) from hkB)
      have HKC := qH0 (show ((W2.alloc (.cells #[.slice p0 q0 r0, .int .u32 (x.ttl : Int), .int .i64 x.data.ty, .slice p3 q3 r3, .slice p4 q4 r4, .slice p5 q5 r5, .slice p6 q6 r6] 109)).alloc (.cells #[] 109)).drew.heap[W2.heap.size]? = some (.cells #[.slice p0 q0 r0, .int .u32 (x.ttl : Int), .int .i64 x.data.ty, .slice p3 q3 r3, .slice p4 q4 r4, .slice p5 q5 r5, .slice p6 q6 r6] 109) from (Below.heap_alloc (W2.drew.alloc (.cells #[.slice p0 q0 r0, .int .u32 (x.ttl : Int), .int .i64 x.data.ty, .slice p3 q3 r3, .slice p4 q4 r4, .slice p5 q5 r5, .slice p6 q6 r6] 109)) (.cells #[] 109) W2.heap.size (by simp)).trans (knew W2.drew (.cells #[.slice p0 q0 r0, .int .u32 (x.ttl : Int), .int .i64 x.data.ty, .slice p3 q3 r3, .slice p4 q4 r4, .slice p5 q5 r5, .slice p6 q6 r6] 109)))
      obtain ⟨c0, c1, c2, c3, c4, c5, c6⟩ := HE.out W2.drew (HB3.out.trans (hbd.mono hsz))
      obtain ⟨d0, d1, d2, d3, d4, d5, d6⟩ := HE.out ((W2.alloc (.cells #[] 109)).drew) (HB3.out.trans (hbA.mono hsz))
      have hk0 : (0 : Int) ≤ (0 : Int) := by omega
      have hkm1 : (0 : Int) ≤ (0 : Int) := by omega
      have hkc1 : (0 : Int) ≤ (0 : Int) := by omega
      have hmc1 : (0 : Int) ≤ (0 : Int) := by omega
      have HNK := qH0 (show 0 ≤ 1000000 ∧ 0 ≤ 1000000 by omega)
      have H4A := qH0 (qag ((W2.alloc (.cells #[] 109)).drew) (.tmp 66) (.tmp 69) qat (by decide) W2.heap.size (.slice (some ⟨W2.heap.size, 0, none⟩) 0 0) [] HOA.out (.slice none 0 0) (([] : List (List Value))) (HTA.out.below HBA.out) HCK.out HC1.out HBA.out.size (by have := HNK.out; rw [HLK.out]; unfold maxLen; simp <;> omega) (by have := HNK.out; rw [HLK.out]; simp <;> omega))
      have H4B := qH0 (qag (((W2.alloc (.cells #[] 109)).alloc (.cells #[.slice p0 q0 r0, .int .u32 (x.ttl : Int), .int .i64 x.data.ty, .slice p3 q3 r3, .slice p4 q4 r4, .slice p5 q5 r5, .slice p6 q6 r6] 109)).drew) (.tmp 66) (.tmp 69) qat (by decide) W2.heap.size (.slice (some ⟨W2.heap.size, 0, none⟩) 0 0) [] HOB.out (.slice none 0 0) (([] : List (List Value))) (HTA.out.below HBB.out) HCK.out HC1.out HBB.out.size (by have := HNK.out; rw [HLK.out]; unfold maxLen; simp <;> omega) (by have := HNK.out; rw [HLK.out]; simp <;> omega))
      have H4C := qH0 (qag (((W2.alloc (.cells #[.slice p0 q0 r0, .int .u32 (x.ttl : Int), .int .i64 x.data.ty, .slice p3 q3 r3, .slice p4 q4 r4, .slice p5 q5 r5, .slice p6 q6 r6] 109)).alloc (.cells #[] 109)).drew) (.tmp 66) (.tmp 69) qat (by decide) W2.heap.size (.slice (some ⟨W2.heap.size + 1, 0, none⟩) 0 0) [] HOC.out (.slice none 0 0) (([] : List (List Value))) (HTA.out.below HBC.out) HCK.out HC1.out HBC.out.size (by have := HNK.out; rw [HLK.out]; unfold maxLen; simp <;> omega) (by have := HNK.out; rw [HLK.out]; simp <;> omega))
      clear hsl3 hbd hbA hbB hbC hoC hkB
      go_wp2_with fail
      go_region_law (first
       | ((with_reducible refine H4A.out _ _ _ _ _ _ ?_ ?_ ?_ ?_ ?_); exact rfl; exact rfl; exact rfl; exact rfl; intro v4 w4 ho4 hg4; rw [List.nil_append] at ho4; have HO4 := qH0 ho4; have HB4 := qH0 (HBA.out.grown hg4 HBA.out.size (OwnK.base_le HOA.out)); have H10 := qH0 (qag (w4.alloc (.cells #[.slice p0 q0 r0, .int .u32 (x.ttl : Int), .int .i64 x.data.ty, .slice p3 q3 r3, .slice p4 q4 r4, .slice p5 q5 r5, .slice p6 q6 r6] 109)) (.tmp 70) (.tmp 75) qat (by decide) W2.heap.size v4 (([] : List (List Value))) (OwnK.alloc HO4.out _) (.slice (some ⟨w4.heap.size, 0, none⟩) 1 1) [[.slice p0 q0 r0, .int .u32 (x.ttl : Int), .int .i64 x.data.ty, .slice p3 q3 r3, .slice p4 q4 r4, .slice p5 q5 r5, .slice p6 q6 r6]] (qaH (css := [[.slice p0 q0 r0, .int .u32 (x.ttl : Int), .int .i64 x.data.ty, .slice p3 q3 r3, .slice p4 q4 r4, .slice p5 q5 r5, .slice p6 q6 r6]]) (knew w4 _)) HX7.out HX1.out (by have := HB4.out.size; simp <;> omega) (by have := HNK.out; rw [HLK.out]; unfold maxLen; simp <;> omega) (by have := HNK.out; rw [HLK.out]; simp <;> omega)); have H10B := qH0 (fun (w5 : World) (hg : World.grownBy (w4.alloc (.cells #[.slice p0 q0 r0, .int .u32 (x.ttl : Int), .int .i64 x.data.ty, .slice p3 q3 r3, .slice p4 q4 r4, .slice p5 q5 r5, .slice p6 q6 r6] 109)) w5 v4.ownBlock) => ((HB4.out.alloc HB4.out.size _).grown hg (by have := HB4.out.size; simp <;> omega) (OwnK.base_le HO4.out))); obtain ⟨e0, e1, e2, e3, e4, e5, e6⟩ := HE.out w4 (HB3.out.trans (HB4.out.mono HSZ.out)); clear ho4 hg4)
       | ((with_reducible refine H4B.out _ _ _ _ _ _ ?_ ?_ ?_ ?_ ?_); exact rfl; exact rfl; exact rfl; exact rfl; intro v4 w4 ho4 hg4; rw [List.nil_append] at ho4; have HO4 := qH0 ho4; have HB4 := qH0 (HBB.out.grown hg4 HBB.out.size (OwnK.base_le HOB.out)); have HBX := qH0 ((hg4.block (W2.heap.size + 1) (qaa HKB.out) (by simp [Value.ownBlock])).trans HKB.out); have H10 := qH0 (qag (w4) (.tmp 70) (.tmp 75) qat (by decide) W2.heap.size v4 (([] : List (List Value))) (HO4.out) (.slice (some ⟨W2.heap.size + 1, 0, none⟩) 1 1) [[.slice p0 q0 r0, .int .u32 (x.ttl : Int), .int .i64 x.data.ty, .slice p3 q3 r3, .slice p4 q4 r4, .slice p5 q5 r5, .slice p6 q6 r6]] (qaH (css := [[.slice p0 q0 r0, .int .u32 (x.ttl : Int), .int .i64 x.data.ty, .slice p3 q3 r3, .slice p4 q4 r4, .slice p5 q5 r5, .slice p6 q6 r6]]) HBX.out) HX7.out HX1.out (HB4.out.size) (by have := HNK.out; rw [HLK.out]; unfold maxLen; simp <;> omega) (by have := HNK.out; rw [HLK.out]; simp <;> omega)); have H10B := qH0 (fun (w5 : World) (hg : World.grownBy (w4) w5 v4.ownBlock) => (HB4.out.grown hg HB4.out.size (OwnK.base_le HO4.out))); clear ho4 hg4)
       | ((with_reducible refine H4C.out _ _ _ _ _ _ ?_ ?_ ?_ ?_ ?_); exact rfl; exact rfl; exact rfl; exact rfl; intro v4 w4 ho4 hg4; rw [List.nil_append] at ho4; have HO4 := qH0 ho4; have HB4 := qH0 (HBC.out.grown hg4 HBC.out.size (OwnK.base_le HOC.out)); have HBX := qH0 ((hg4.block W2.heap.size (qaa HKC.out) (by simp [Value.ownBlock])).trans HKC.out); have H10 := qH0 (qag (w4) (.tmp 70) (.tmp 75) qat (by decide) W2.heap.size v4 (([] : List (List Value))) (HO4.out) (.slice (some ⟨W2.heap.size, 0, none⟩) 1 1) [[.slice p0 q0 r0, .int .u32 (x.ttl : Int), .int .i64 x.data.ty, .slice p3 q3 r3, .slice p4 q4 r4, .slice p5 q5 r5, .slice p6 q6 r6]] (qaH (css := [[.slice p0 q0 r0, .int .u32 (x.ttl : Int), .int .i64 x.data.ty, .slice p3 q3 r3, .slice p4 q4 r4, .slice p5 q5 r5, .slice p6 q6 r6]]) HBX.out) HX7.out HX1.out (HB4.out.size) (by have := HNK.out; rw [HLK.out]; unfold maxLen; simp <;> omega) (by have := HNK.out; rw [HLK.out]; simp <;> omega)); have H10B := qH0 (fun (w5 : World) (hg : World.grownBy (w4) w5 v4.ownBlock) => (HB4.out.grown hg HB4.out.size (OwnK.base_le HO4.out))); clear ho4 hg4)
       | ((with_reducible refine H10.out _ _ _ _ _ _ ?_ ?_ ?_ ?_ ?_); exact rfl; exact rfl; exact rfl; exact rfl; intro v5 w5 ho5 hg5; have HO5 := qH0 ho5; have HB5 := qH0 (H10B.out w5 hg5); clear ho5 hg5))
      all_goals
       obtain ⟨a5, z5, e5⟩ := OwnK.shape HO5.out
       rw [List.length_append, HLK.out] at e5
       simp only [List.length_cons, List.length_nil, Nat.zero_add] at e5
       subst e5
       clear c0 c1 c2 c3 c4 c5 c6 d0 d1 d2 d3 d4 d5 d6
       go_wp2_with (at_builtin; refine qaN w5 rfl (.tmp 77) (.tmp 80) qat (by decide) rfl W2.heap.size (.slice a5 _ z5) _ rfl HO5.out (.slice none 0 0) (([] : List (List Value))) rfl (HTD.out.below HB5.out) HDK.out HD1.out HB5.out.size (by unfold maxLen; simp) (by simp) ?_; intro v6 w6 ho6 hg6)
       have HO6 := qH0 ho6
       have HB6 := qH0 (HB5.out.grown hg6 HB5.out.size (OwnK.base_le HO5.out))
       clear ho6 hg6
       obtain ⟨a6, c6, e6⟩ := OwnK.shape HO6.out
       have hl6 : (([] : List (List Value)) ++ ([[.slice p0 q0 r0, .int .u32 (x.ttl : Int), .int .i64 x.data.ty, .slice p3 q3 r3, .slice p4 q4 r4, .slice p5 q5 r5, .slice p6 q6 r6]] : List (List Value)) ++ ([] : List (List Value))).length = 0 + 1 := by simp
       rw [hl6] at e6
       subst e6
       go_roundg (n - (i + 1))
       case measure => omega
       case rel => exact ⟨i + 1, a6, 0 + 1, c6, _, _, rfl, by go_num, by omega, by omega, by omega, qH0 ⟨hl6, by rw [HST.out, HGAP.out]⟩, qH0 (OwnK.weaken HO6.out HSZ.out), qH0 (HRC.out.gap 0 HX0.out), qH0 (HB3.out.trans (HB6.out.mono HSZ.out))⟩
     ·clear hgb hgw
      have HB3 := qH0 (qB0 HB2.out HP2.out)
      have HO3 := qH0 (OwnK.below HO2.out HP2.out)
      clear hcl hcl2 hne
      generalize p2.w = W2 at *
      have hsz := HB3.out.size
      have HSZ := qH0 hsz
      have hsl3 : SlK W2 (.slice (some ⟨g, 0, none⟩) m gc) csd := SlK.of_own HO3.out HRC.out.ck
      have HTA := qH0 (hsl3.takeK k hk)
      have htd := hsl3.dropK HRC.out.ck k hk
      rw [Nat.zero_add] at htd
      have HTD := qH0 htd
      have HLK := qH0 (show (csd.take k).length = k by rw [List.length_take]; have := HL.out.1; omega)
      have HLD := qH0 (show (csd.drop k).length = m - k by rw [List.length_drop]; have := HL.out.1; omega)
      have HCK := qH0 (fun cs (h : cs ∈ csd.take k) => HRC.out.ck cs (List.mem_of_mem_take h))
      have HC1 := qH0 (fun cs (h : cs ∈ csd.take k) => one7 HRC.out cs (List.mem_of_mem_take h))
      have HDK := qH0 (fun cs (h : cs ∈ csd.drop k) => HRC.out.ck cs (List.mem_of_mem_drop h))
      have HD1 := qH0 (fun cs (h : cs ∈ csd.drop k) => one7 HRC.out cs (List.mem_of_mem_drop h))
      have HX7 := qH0 (show ∀ cs ∈ ([[.slice p0 q0 r0, .int .u32 (x.ttl : Int), .int .i64 x.data.ty, .slice p3 q3 r3, .slice p4 q4 r4, .slice p5 q5 r5, .slice p6 q6 r6]] : List (List Value)), cs.length = 7 by intro cs hc; rw [List.mem_singleton] at hc; subst hc; rfl)
      have HX1 := qH0 (show ∀ cs ∈ ([[.slice p0 q0 r0, .int .u32 (x.ttl : Int), .int .i64 x.data.ty, .slice p3 q3 r3, .slice p4 q4 r4, .slice p5 q5 r5, .slice p6 q6 r6]] : List (List Value)), ∀ u ∈ cs, u.oneCell' = true by
       intro cs hc u hu; rw [List.mem_singleton] at hc; subst hc; exact HX0.out.one u hu)
      have hbd : Below W2.heap.size W2 W2.drew := ⟨rfl, rfl, rfl, qN0, fun _ _ => rfl⟩
      have hbA : Below W2.heap.size W2 (W2.alloc (.cells #[] 109)).drew := hbd.alloc (qN0) _
      have hbB : Below W2.heap.size W2 ((W2.alloc (.cells #[] 109)).alloc (.cells #[.slice p0 q0 r0, .int .u32 (x.ttl : Int), .int .i64 x.data.ty, .slice p3 q3 r3, .slice p4 q4 r4, .slice p5 q5 r5, .slice p6 q6 r6] 109)).drew := hbA.alloc (by simp) _
      have hbC : Below W2.heap.size W2 ((W2.alloc (.cells #[.slice p0 q0 r0, .int .u32 (x.ttl : Int), .int .i64 x.data.ty, .slice p3 q3 r3, .slice p4 q4 r4, .slice p5 q5 r5, .slice p6 q6 r6] 109)).alloc (.cells #[] 109)).drew := (hbd.alloc (qN0) _).alloc (by simp) _
      have HBA := qH0 hbA; have HBB := qH0 hbB; have HBC := qH0 hbC
      have HOA := qH0 (show OwnC 7 109 ((W2.alloc (.cells #[] 109)).drew) W2.heap.size (.slice (some ⟨W2.heap.size, 0, none⟩) 0 0) [] from qaB 7 109 W2.drew)
      have HOB := qH0 (show OwnC 7 109 (((W2.alloc (.cells #[] 109)).alloc (.cells #[.slice p0 q0 r0, .int .u32 (x.ttl : Int), .int .i64 x.data.ty, .slice p3 q3 r3, .slice p4 q4 r4, .slice p5 q5 r5, .slice p6 q6 r6] 109)).drew) W2.heap.size (.slice (some ⟨W2.heap.size, 0, none⟩) 0 0) [] from OwnK.alloc (qaB 7 109 W2.drew) _)
      have hoC := qaB 7 109 (W2.drew.alloc (.cells #[.slice p0 q0 r0, .int .u32 (x.ttl : Int), .int .i64 x.data.ty, .slice p3 q3 r3, .slice p4 q4 r4, .slice p5 q5 r5, .slice p6 q6 r6] 109))
      rw [World.size_alloc] at hoC
      have HOC := qH0 (show OwnC 7 109 (((W2.alloc (.cells #[.slice p0 q0 r0, .int .u32 (x.ttl : Int), .int .i64 x.data.ty, .slice p3 q3 r3, .slice p4 q4 r4, .slice p5 q5 r5, .slice p6 q6 r6] 109)).alloc (.cells #[] 109)).drew) W2.heap.size (.slice (some ⟨W2.heap.size + 1, 0, none⟩) 0 0) [] from OwnK.weaken hoC (by show W2.heap.size ≤ W2.heap.size + 1; omega))
      have hkB := knew (W2.drew.alloc (.cells #[] 109)) (.cells #[.slice p0 q0 r0, .int .u32 (x.ttl : Int), .int .i64 x.data.ty, .slice p3 q3 r3, .slice p4 q4 r4, .slice p5 q5 r5, .slice p6 q6 r6] 109)
      rw [World.size_alloc] at hkB
      have HKB := qH0 (show ((W2.alloc (.cells #[] 109)).alloc (.cells #[.slice p0 q0 r0, .int .u32 (x.ttl : Int), .int .i64 x.data.ty, .slice p3 q3 r3, .slice p4 q4 r4, .slice p5 q5 r5, .slice p6 q6 r6] 109)).drew.heap[W2.heap.size + 1]? = some (.cells #[.slice p0 q0 r0, .int .u32 (x.ttl : Int), .int .i64 x.data.ty, .slice p3 q3 r3, .slice p4 q4 r4, .slice p5 q5 r5, .slice p6 q6 r6] 109) from hkB)
      have HKC := qH0 (show ((W2.alloc (.cells #[.slice p0 q0 r0, .int .u32 (x.ttl : Int), .int .i64 x.data.ty, .slice p3 q3 r3, .slice p4 q4 r4, .slice p5 q5 r5, .slice p6 q6 r6] 109)).alloc (.cells #[] 109)).drew.heap[W2.heap.size]? = some (.cells #[.slice p0 q0 r0, .int .u32 (x.ttl : Int), .int .i64 x.data.ty, .slice p3 q3 r3, .slice p4 q4 r4, .slice p5 q5 r5, .slice p6 q6 r6] 109) from (Below.heap_alloc (W2.drew.alloc (.cells #[.slice p0 q0 r0, .int .u32 (x.ttl : Int), .int .i64 x.data.ty, .slice p3 q3 r3, .slice p4 q4 r4, .slice p5 q5 r5, .slice p6 q6 r6] 109)) (.cells #[] 109) W2.heap.size (by simp)).trans (knew W2.drew (.cells #[.slice p0 q0 r0, .int .u32 (x.ttl : Int), .int .i64 x.data.ty, .slice p3 q3 r3, .slice p4 q4 r4, .slice p5 q5 r5, .slice p6 q6 r6] 109)))
      obtain ⟨c0, c1, c2, c3, c4, c5, c6⟩ := HE.out W2.drew (HB3.out.trans (hbd.mono hsz))
      obtain ⟨d0, d1, d2, d3, d4, d5, d6⟩ := HE.out ((W2.alloc (.cells #[] 109)).drew) (HB3.out.trans (hbA.mono hsz))
      have hk0 : (0 : Int) ≤ (k : Int) := by omega
      have hkm1 : (k : Int) ≤ (m : Int) := by omega
      have hkc1 : (k : Int) ≤ (gc : Int) := by omega
      have hmc1 : (m : Int) ≤ (gc : Int) := by omega
      have HNK := qH0 (show k ≤ 1000000 ∧ m ≤ 1000000 by omega)
      have H4A := qH0 (qag ((W2.alloc (.cells #[] 109)).drew) (.tmp 66) (.tmp 69) qat (by decide) W2.heap.size (.slice (some ⟨W2.heap.size, 0, none⟩) 0 0) [] HOA.out (.slice (some ⟨g, 0, none⟩) k gc) (csd.take k) (HTA.out.below HBA.out) HCK.out HC1.out HBA.out.size (by have := HNK.out; rw [HLK.out]; unfold maxLen; simp <;> omega) (by have := HNK.out; rw [HLK.out]; simp <;> omega))
      have H4B := qH0 (qag (((W2.alloc (.cells #[] 109)).alloc (.cells #[.slice p0 q0 r0, .int .u32 (x.ttl : Int), .int .i64 x.data.ty, .slice p3 q3 r3, .slice p4 q4 r4, .slice p5 q5 r5, .slice p6 q6 r6] 109)).drew) (.tmp 66) (.tmp 69) qat (by decide) W2.heap.size (.slice (some ⟨W2.heap.size, 0, none⟩) 0 0) [] HOB.out (.slice (some ⟨g, 0, none⟩) k gc) (csd.take k) (HTA.out.below HBB.out) HCK.out HC1.out HBB.out.size (by have := HNK.out; rw [HLK.out]; unfold maxLen; simp <;> omega) (by have := HNK.out; rw [HLK.out]; simp <;> omega))
      have H4C := qH0 (qag (((W2.alloc (.cells #[.slice p0 q0 r0, .int .u32 (x.ttl : Int), .int .i64 x.data.ty, .slice p3 q3 r3, .slice p4 q4 r4, .slice p5 q5 r5, .slice p6 q6 r6] 109)).alloc (.cells #[] 109)).drew) (.tmp 66) (.tmp 69) qat (by decide) W2.heap.size (.slice (some ⟨W2.heap.size + 1, 0, none⟩) 0 0) [] HOC.out (.slice (some ⟨g, 0, none⟩) k gc) (csd.take k) (HTA.out.below HBC.out) HCK.out HC1.out HBC.out.size (by have := HNK.out; rw [HLK.out]; unfold maxLen; simp <;> omega) (by have := HNK.out; rw [HLK.out]; simp <;> omega))
      clear hsl3 hbd hbA hbB hbC hoC hkB
      go_wp2_with fail
      go_region_law (first
       | ((with_reducible refine H4A.out _ _ _ _ _ _ ?_ ?_ ?_ ?_ ?_); exact rfl; exact rfl; exact rfl; exact rfl; intro v4 w4 ho4 hg4; rw [List.nil_append] at ho4; have HO4 := qH0 ho4; have HB4 := qH0 (HBA.out.grown hg4 HBA.out.size (OwnK.base_le HOA.out)); have H10 := qH0 (qag (w4.alloc (.cells #[.slice p0 q0 r0, .int .u32 (x.ttl : Int), .int .i64 x.data.ty, .slice p3 q3 r3, .slice p4 q4 r4, .slice p5 q5 r5, .slice p6 q6 r6] 109)) (.tmp 70) (.tmp 75) qat (by decide) W2.heap.size v4 (csd.take k) (OwnK.alloc HO4.out _) (.slice (some ⟨w4.heap.size, 0, none⟩) 1 1) [[.slice p0 q0 r0, .int .u32 (x.ttl : Int), .int .i64 x.data.ty, .slice p3 q3 r3, .slice p4 q4 r4, .slice p5 q5 r5, .slice p6 q6 r6]] (qaH (css := [[.slice p0 q0 r0, .int .u32 (x.ttl : Int), .int .i64 x.data.ty, .slice p3 q3 r3, .slice p4 q4 r4, .slice p5 q5 r5, .slice p6 q6 r6]]) (knew w4 _)) HX7.out HX1.out (by have := HB4.out.size; simp <;> omega) (by have := HNK.out; rw [HLK.out]; unfold maxLen; simp <;> omega) (by have := HNK.out; rw [HLK.out]; simp <;> omega)); have H10B := qH0 (fun (w5 : World) (hg : World.grownBy (w4.alloc (.cells #[.slice p0 q0 r0, .int .u32 (x.ttl : Int), .int .i64 x.data.ty, .slice p3 q3 r3, .slice p4 q4 r4, .slice p5 q5 r5, .slice p6 q6 r6] 109)) w5 v4.ownBlock) => ((HB4.out.alloc HB4.out.size _).grown hg (by have := HB4.out.size; simp <;> omega) (OwnK.base_le HO4.out))); obtain ⟨e0, e1, e2, e3, e4, e5, e6⟩ := HE.out w4 (HB3.out.trans (HB4.out.mono HSZ.out)); clear ho4 hg4)
       | ((with_reducible refine H4B.out _ _ _ _ _ _ ?_ ?_ ?_ ?_ ?_); exact rfl; exact rfl; exact rfl; exact rfl; intro v4 w4 ho4 hg4; rw [List.nil_append] at ho4; have HO4 := qH0 ho4; have HB4 := qH0 (HBB.out.grown hg4 HBB.out.size (OwnK.base_le HOB.out)); have HBX := qH0 ((hg4.block (W2.heap.size + 1) (qaa HKB.out) (by simp [Value.ownBlock])).trans HKB.out); have H10 := qH0 (qag (w4) (.tmp 70) (.tmp 75) qat (by decide) W2.heap.size v4 (csd.take k) (HO4.out) (.slice (some ⟨W2.heap.size + 1, 0, none⟩) 1 1) [[.slice p0 q0 r0, .int .u32 (x.ttl : Int), .int .i64 x.data.ty, .slice p3 q3 r3, .slice p4 q4 r4, .slice p5 q5 r5, .slice p6 q6 r6]] (qaH (css := [[.slice p0 q0 r0, .int .u32 (x.ttl : Int), .int .i64 x.data.ty, .slice p3 q3 r3, .slice p4 q4 r4, .slice p5 q5 r5, .slice p6 q6 r6]]) HBX.out) HX7.out HX1.out (HB4.out.size) (by have := HNK.out; rw [HLK.out]; unfold maxLen; simp <;> omega) (by have := HNK.out; rw [HLK.out]; simp <;> omega)); have H10B := qH0 (fun (w5 : World) (hg : World.grownBy (w4) w5 v4.ownBlock) => (HB4.out.grown hg HB4.out.size (OwnK.base_le HO4.out))); clear ho4 hg4)
       | ((with_reducible refine H4C.out _ _ _ _ _ _ ?_ ?_ ?_ ?_ ?_); exact rfl; exact rfl; exact rfl; exact rfl; intro v4 w4 ho4 hg4; rw [List.nil_append] at ho4; have HO4 := qH0 ho4; have HB4 := qH0 (HBC.out.grown hg4 HBC.out.size (OwnK.base_le HOC.out)); have HBX := qH0 ((hg4.block W2.heap.size (qaa HKC.out) (by simp [Value.ownBlock])).trans HKC.out); have H10 := qH0 (qag (w4) (.tmp 70) (.tmp 75) qat (by decide) W2.heap.size v4 (csd.take k) (HO4.out) (.slice (some ⟨W2.heap.size, 0, none⟩) 1 1) [[.slice p0 q0 r0, .int .u32 (x.ttl : Int), .int .i64 x.data.ty, .slice p3 q3 r3, .slice p4 q4 r4, .slice p5 q5 r5, .slice p6 q6 r6]] (qaH (css := [[.slice p0 q0 r0, .int .u32 (x.ttl : Int), .int .i64 x.data.ty, .slice p3 q3 r3, .slice p4 q4 r4, .slice p5 q5 r5, .slice p6 q6 r6]]) HBX.out) HX7.out HX1.out (HB4.out.size) (by have := HNK.out; rw [HLK.out]; unfold maxLen; simp <;> omega) (by have := HNK.out; rw [HLK.out]; simp <;> omega)); have H10B := qH0 (fun (w5 : World) (hg : World.grownBy (w4) w5 v4.ownBlock) => (HB4.out.grown hg HB4.out.size (OwnK.base_le HO4.out))); clear ho4 hg4)
       | ((with_reducible refine H10.out _ _ _ _ _ _ ?_ ?_ ?_ ?_ ?_); exact rfl; exact rfl; exact rfl; exact rfl; intro v5 w5 ho5 hg5; have HO5 := qH0 ho5; have HB5 := qH0 (H10B.out w5 hg5); clear ho5 hg5))
      all_goals
       obtain ⟨a5, z5, e5⟩ := OwnK.shape HO5.out
       rw [List.length_append, HLK.out] at e5
       simp only [List.length_cons, List.length_nil, Nat.zero_add] at e5
       subst e5
       clear c0 c1 c2 c3 c4 c5 c6 d0 d1 d2 d3 d4 d5 d6
       by_cases hgk : gc = k
       ·subst hgk
        have hdz : csd.drop gc = [] := List.eq_nil_of_length_eq_zero (by rw [HLD.out]; omega)
        have HTE := qH0 (show SlK W2 (.slice (some ⟨g, 0, none⟩) 0 0) (csd.drop gc) by rw [hdz]; exact ⟨_, _, rfl, qN0, (fun e => by cases e), .inl rfl⟩)
        clear hdz
        go_wp2_with (at_builtin; refine qaN w5 rfl (.tmp 77) (.tmp 80) qat (by decide) rfl W2.heap.size (.slice a5 _ z5) _ rfl HO5.out (.slice (some ⟨g, 0, none⟩) 0 0) (csd.drop gc) rfl (HTE.out.below HB5.out) HDK.out HD1.out HB5.out.size (by have := HNK.out; rw [List.length_append, HLK.out, HLD.out]; unfold maxLen; simp <;> omega) (by have := HNK.out; rw [List.length_append, HLK.out, HLD.out]; simp <;> omega) ?_; intro v6 w6 ho6 hg6)
        have HO6 := qH0 ho6
        have HB6 := qH0 (HB5.out.grown hg6 HB5.out.size (OwnK.base_le HO5.out))
        clear ho6 hg6
        obtain ⟨a6, c6, e6⟩ := OwnK.shape HO6.out
        have hl6 : (csd.take gc ++ ([[.slice p0 q0 r0, .int .u32 (x.ttl : Int), .int .i64 x.data.ty, .slice p3 q3 r3, .slice p4 q4 r4, .slice p5 q5 r5, .slice p6 q6 r6]] : List (List Value)) ++ csd.drop gc).length = m + 1 := by rw [List.length_append, List.length_append, HLK.out, HLD.out]; simp <;> omega
        rw [hl6] at e6
        subst e6
        go_roundg (n - (i + 1))
        case measure => omega
        case rel => exact ⟨i + 1, a6, m + 1, c6, _, _, rfl, by go_num, by omega, by omega, by omega, qH0 ⟨hl6, by rw [HST.out, HGAP.out]⟩, qH0 (OwnK.weaken HO6.out HSZ.out), qH0 (HRC.out.gap gc HX0.out), qH0 (HB3.out.trans (HB6.out.mono HSZ.out))⟩
       ·have hgk2 : (k : Int) < (gc : Int) := by omega
        go_wp2_with (at_builtin; refine qaN w5 rfl (.tmp 77) (.tmp 80) qat (by decide) rfl W2.heap.size (.slice a5 _ z5) _ rfl HO5.out (.slice (some ⟨g, k * 7, none⟩) (m - k) (gc - k)) (csd.drop k) rfl (HTD.out.below HB5.out) HDK.out HD1.out HB5.out.size (by have := HNK.out; rw [List.length_append, HLK.out, HLD.out]; unfold maxLen; simp <;> omega) (by have := HNK.out; rw [List.length_append, HLK.out, HLD.out]; simp <;> omega) ?_; intro v6 w6 ho6 hg6)
        have HO6 := qH0 ho6
        have HB6 := qH0 (HB5.out.grown hg6 HB5.out.size (OwnK.base_le HO5.out))
        clear ho6 hg6
        obtain ⟨a6, c6, e6⟩ := OwnK.shape HO6.out
        have hl6 : (csd.take k ++ ([[.slice p0 q0 r0, .int .u32 (x.ttl : Int), .int .i64 x.data.ty, .slice p3 q3 r3, .slice p4 q4 r4, .slice p5 q5 r5, .slice p6 q6 r6]] : List (List Value)) ++ csd.drop k).length = m + 1 := by rw [List.length_append, List.length_append, HLK.out, HLD.out]; simp <;> omega
        rw [hl6] at e6
        subst e6
        go_roundg (n - (i + 1))
        case measure => omega
        case rel => exact ⟨i + 1, a6, m + 1, c6, _, _, rfl, by go_num, by omega, by omega, by omega, qH0 ⟨hl6, by rw [HST.out, HGAP.out]⟩, qH0 (OwnK.weaken HO6.out HSZ.out), qH0 (HRC.out.gap k HX0.out), qH0 (HB3.out.trans (HB6.out.mono HSZ.out))⟩
  ·obtain rfl : i = n := by omega
   go_wp2
   go_ret
   have h := HRC.out
   rw [HL.out.2, List.take_of_length_le (by have := HLL.out; omega)] at h
   exact ⟨_, csd, rfl, HO.out, h, HB.out⟩
end Go.Proofs.YtckammgnmgkieaaGreat
