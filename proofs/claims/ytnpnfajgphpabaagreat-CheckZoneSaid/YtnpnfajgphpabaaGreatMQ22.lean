import Derived.RangeFuncNested
import Derived.Test.YtnpnfajgphpabaaGreatMQ20
import Derived.Test.YtnpnfajgphpabaaGreatMQ39
namespace Go.Proofs.YtnpnfajgphpabaaGreat
set_option linter.unusedVariables false
set_option linter.unusedSimpArgs false
set_option maxRecDepth 100000
set_option maxHeartbeats 32000000
open Go.RowKit Go.Shelf
theorem qll {W : World} {x : List Value} {a : Rc} (h : RcAt W x a) : Rcs W [x] [a] := by
 refine ⟨rfl, fun i h1 h2 => ?_⟩
 match i, h1 with
 | 0, _ => exact h
theorem Rcs.set {W : World} {css : List (List Value)} {rs : List Rc} (h : Rcs W css rs) (k : Nat) {cs : List Value} {r : Rc} (hc : RcAt W cs r) : Rcs W (css.set k cs) (rs.set k r) := by
 refine ⟨by simp [h.1], fun i h1 h2 => ?_⟩
 rw [List.length_set] at h1 h2
 rw [List.getElem_set, List.getElem_set]
 by_cases hi : k = i
 ·rw [if_pos hi, if_pos hi]; exact hc
 ·rw [if_neg hi, if_neg hi]; exact h.2 i h1 h2
theorem Rcs.append {W : World} {a c : List (List Value)} {b d : List Rc} (h : Rcs W a b) (g : Rcs W c d) : Rcs W (a ++ c) (b ++ d) := by
 have hl := h.1
 refine ⟨by simp [h.1, g.1], fun i h1 h2 => ?_⟩
 rw [List.length_append] at h1 h2
 by_cases hi : i < a.length
 ·rw [List.getElem_append_left hi, List.getElem_append_left (by omega)]
  exact h.2 i hi (by omega)
 ·rw [List.getElem_append_right (by omega), List.getElem_append_right (by omega)]
  have e : i - b.length = i - a.length := by rw [hl]
  simp only [e]
  exact g.2 (i - a.length) (by omega) (by omega)
theorem Rcs.take {W : World} {a : List (List Value)} {b : List Rc} (h : Rcs W a b) (k : Nat) : Rcs W (a.take k) (b.take k) := by
 refine ⟨by simp [h.1], fun i h1 h2 => ?_⟩
 rw [List.length_take] at h1 h2
 rw [List.getElem_take, List.getElem_take]
 exact h.2 i (by omega) (by omega)
theorem Rcs.drop {W : World} {a : List (List Value)} {b : List Rc} (h : Rcs W a b) (k : Nat) : Rcs W (a.drop k) (b.drop k) := by
 refine ⟨by simp [h.1], fun i h1 h2 => ?_⟩
 rw [List.length_drop] at h1 h2
 rw [List.getElem_drop, List.getElem_drop]
 exact h.2 (k + i) (by omega) (by omega)
theorem Rcs.gap {W : World} {css : List (List Value)} {rs : List Rc} (h : Rcs W css rs) (k : Nat) {cs : List Value} {r : Rc} (hc : RcAt W cs r) : Rcs W (css.take k ++ [cs] ++ css.drop k) (rs.take k ++ [r] ++ rs.drop k) :=
 ((h.take k).append (qll hc)).append (h.drop k)
theorem RcAt.withTTL {W : World} {x0 x1 x2 x3 x4 x5 x6 : Value} {y : Rc} (t : Nat) (h : RcAt W [x0, x1, x2, x3, x4, x5, x6] y) : RcAt W [x0, .int .u32 (t : Int), x2, x3, x4, x5, x6] ⟨y.owner, t, y.data⟩ := by
 obtain ⟨vo, vn, vu, vt, vr, e, h1, h2⟩ := h
 simp only [List.cons.injEq, and_true] at e
 obtain ⟨rfl, rfl, rfl, rfl, rfl, rfl, rfl⟩ := e
 exact ⟨_, _, _, _, _, rfl, h1, h2⟩
theorem OwnC.some' {T : TypeId} {W : World} {base n c : Nat} {ga : Option Addr} {css : List (List Value)} (h : OwnC 7 T W base (.slice ga n c) css) : (ga = none ∧ n = 0 ∧ c = 0 ∧ css = []) ∨ ∃ g cur, ga = some ⟨g, 0, none⟩ ∧ base ≤ g ∧ W.heap[g]? = some (.cells cur T) ∧ n ≤ c ∧ css.length = n := by
 obtain ⟨hl, h⟩ := h
 rcases h with ⟨e, e2⟩ | ⟨g', cap, cur, e, hb, hg, hc, hm, hsz, htk⟩
 ·cases e; exact .inl ⟨rfl, rfl, rfl, List.eq_nil_of_length_eq_zero e2⟩
 ·cases e; exact .inr ⟨g', cur, rfl, hb, hg, hc, rfl⟩
theorem qh3 {a b : Nat} (h : b < a) : minT a b = b := by unfold minT; rw [if_pos h]
theorem qhY {a b : Nat} (h : ¬ b < a) : minT a b = a := by unfold minT; rw [if_neg h]
theorem one7 {W : World} {css : List (List Value)} {rs : List Rc} (h : Rcs W css rs) : ∀ cs ∈ css, ∀ u ∈ cs, u.oneCell' = true := fun cs hc => by
 obtain ⟨i, hi, rfl⟩ := List.mem_iff_getElem.1 hc
 exact (h.2 i hi (by have := h.1; omega)).one
def qgy (w0 w : World) (l : List Rc) (e : Ending) (w' : World) : Prop := ∃ v' csd, e = .returned v' ∧ OwnC 7 89 w' w.heap.size v' csd ∧ Rcs w0 csd (canonM l) ∧ Below w.heap.size w w'
theorem qeK (v : Value) (css : List (List Value)) (l : List Rc) (w0 w : World) (hA : SlK w v css) (hR : Rcs w0 css l) (hb0 : Below w0.heap.size w0 w) (hOK : ∀ r ∈ l, RcOK r) (hl : css.length ≤ 1000000) :
 Calls Tryz.prog 33 #[v] w (qgy w0 w l) := by
 obtain ⟨a, c, rfl, hc1, -, -⟩ := id hA
 obtain ⟨n, hn⟩ : ∃ n, css.length = n := ⟨_, rfl⟩
 rw [hn] at hA hc1 hl ⊢
 have HB00 := qH0 hb0; have HA := qH0 hA; have HR := qH0 hR; have HOK := qH0 hOK; have HLN := qH0 hn
 have HLL := qH0 (show l.length = n by rw [← hn]; exact hR.1.symm)
 clear hA hR hOK hn hb0
 go_enter Tryz.func33, Tryz.ntmps33
 go_wp2
 go_loopg [3, 4] n (fun g1 vo vi wr => ∃ (i : Nat) (ga : Option Addr) (m gc : Nat) (csd : List (List Value)) (C : List Rc), vo = .slice ga m gc ∧ vi = .int .i64 i ∧ i ≤ n ∧ n - i ≤ g1 ∧ m ≤ i ∧ Hid (csd.length = m ∧ C = canonM (l.take i)) ∧ Hid (OwnC 7 89 wr w.heap.size (.slice ga m gc) csd) ∧ Hid (Rcs w0 csd C) ∧ Hid (Below w.heap.size w wr))
 case atStart => exact ⟨0, none, 0, 0, [], [], rfl, rfl, Nat.zero_le _, by omega, qN0, qH0 ⟨rfl, rfl⟩, qH0 (OwnK.nil _ _), qH0 ⟨rfl, fun i h => absurd h (by simp)⟩, qH0 (qL0)⟩
 case round =>
  obtain ⟨i, ga, m, gc, csd, C, rfl, rfl, hi, hg1, hmi, HL, HO, HRC, HB⟩ := hrel
  by_cases hlt : i < n
  ·have hltz : (i : Int) < (n : Int) := by omega
   have hi1 : i < css.length := by have := HLN.out; omega
   have hi2 : i < l.length := by have := HLL.out; omega
   obtain ⟨b, off, rfl, hb, hel⟩ := HA.out.elem HR.out.ck (by omega)
   have h0 := HR.out.2 i hi1 hi2
   have hokx := HOK.out _ (List.getElem_mem hi2)
   have hst := qhh hi2
   have hokc := qf2 (l.take i) (fun r hr => HOK.out r (List.mem_of_mem_take hr))
   rw [← HL.out.2] at hst hokc
   obtain ⟨x, hx⟩ : ∃ r, l[i]'hi2 = r := ⟨_, rfl⟩
   rw [hx] at h0 hokx hst
   obtain ⟨⟨p0, q0, r0⟩, ⟨p3, q3, r3⟩, ⟨p4, q4, r4⟩, ⟨p5, q5, r5⟩, ⟨p6, q6, r6⟩, e0⟩ := h0.shape
   simp only at e0
   have HE := qH0 (fun W hb => hel i hi1 _ _ _ _ _ _ _ e0 W hb)
   rw [e0] at h0
   have HX0 := qH0 h0; have HOKX := qH0 hokx; have HST := qH0 hst; have HOKC := qH0 hokc
   have HLC := qH0 (show C.length = m by have := HRC.out.1; have := HL.out.1; omega)
   clear h0 hokx hst hokc hx e0 hel hi1 hi2
   go_wp2_with fail
   go_loopg [5] m (fun g2 vk wq => ∃ (wr2 : World) (k : Nat), wr2 = wq ∧ vk = .int .i64 k ∧ k ≤ m ∧ m - k ≤ g2 ∧ Hid (∀ j (h : j < C.length), j < k → qab C[j] x < 0) ∧ Hid (OwnC 7 89 wr2 w.heap.size (.slice ga m gc) csd) ∧ Hid (Below w.heap.size w wr2))
   case atStart => exact ⟨_, 0, rfl, rfl, Nat.zero_le _, by omega, qH0 (fun j h hj => absurd hj (Nat.not_lt_zero _)), HO, HB⟩
   case round =>
    obtain ⟨wr2, k, rfl, rfl, hk, hg2, HLS, HO2, HB2⟩ := hrel
    have hcl : (fun W => Below wr2.heap.size wr2 W) wr2.drew := ⟨rfl, rfl, rfl, qN0, fun _ _ => rfl⟩
    have hne : Nonempty (WIn (fun W => Below wr2.heap.size wr2 W)) := ⟨⟨_, hcl⟩⟩
    by_cases hkm : k < m
    ·have hkz : (k : Int) < (m : Int) := by omega
     have hkc : k < csd.length := by have := HL.out.1; omega
     have hkC : k < C.length := by have := HLC.out; omega
     rcases OwnC.some' HO2.out with ⟨-, e, -, -⟩ | ⟨g, cur, rfl, hgb, hgw, hmc, -⟩
     ·omega
     have hsl : SlK wr2 (.slice (some ⟨g, 0, none⟩) m gc) csd := SlK.of_own HO2.out HRC.out.ck
     obtain ⟨g', o', eg, hg', heo⟩ := hsl.elem HRC.out.ck (by omega)
     cases eg
     have h1 := HRC.out.2 k hkc hkC
     have hoky := HOKC.out _ (List.getElem_mem hkC)
     obtain ⟨y, hy⟩ : ∃ r, C[k]'hkC = r := ⟨_, rfl⟩
     have HY := qH0 hy
     rw [hy] at h1 hoky
     obtain ⟨⟨p0', q0', r0'⟩, ⟨p3', q3', r3'⟩, ⟨p4', q4', r4'⟩, ⟨p5', q5', r5'⟩, ⟨p6', q6', r6'⟩, e1⟩ := h1.shape
     simp only at e1
     have HYC := qH0 e1
     rw [e1] at h1
     have HY1 := qH0 h1; have HOKY := qH0 hoky
     have f0 := fun p : WIn (fun W => Below wr2.heap.size wr2 W) => HE.out p.w (HB2.out.trans (p.ok.mono HB2.out.size))
     have f1 := fun p : WIn (fun W => Below wr2.heap.size wr2 W) => heo k hkc _ _ _ _ _ _ _ e1 p.w p.ok
     simp only [Nat.zero_add] at f1
     have g0 := fun p => (f0 p).1; have g1' := fun p => (f0 p).2.1; have g2' := fun p => (f0 p).2.2.1; have g3 := fun p => (f0 p).2.2.2.1; have g4 := fun p => (f0 p).2.2.2.2.1; have g5 := fun p => (f0 p).2.2.2.2.2.1; have g6 := fun p => (f0 p).2.2.2.2.2.2
     have j0 := fun p => (f1 p).1; have j1 := fun p => (f1 p).2.1; have j2 := fun p => (f1 p).2.2.1; have j3 := fun p => (f1 p).2.2.2.1; have j4 := fun p => (f1 p).2.2.2.2.1; have j5 := fun p => (f1 p).2.2.2.2.2.1; have j6 := fun p => (f1 p).2.2.2.2.2.2
     have hcg := fun p : WIn (fun W => Below wr2.heap.size wr2 W) => Calls.cls (C := (fun W => Below wr2.heap.size wr2 W)) ((qcR _ _ _ _ p.w (h1.below (HB00.out.trans ((HB2.out.trans (p.ok.mono HB2.out.size)).mono HB00.out.size))) (HX0.out.below (HB00.out.trans ((HB2.out.trans (p.ok.mono HB2.out.size)).mono HB00.out.size))) hoky HOKX.out).mono fun _ _ ⟨hq, hb⟩ => ⟨hq, p.ok.trans (hb.mono p.ok.size)⟩)
     have hcs := fun p : WIn (fun W => Below wr2.heap.size wr2 W) => Calls.cls (C := (fun W => Below wr2.heap.size wr2 W)) ((qhA _ _ _ _ p.w (h1.below (HB00.out.trans ((HB2.out.trans (p.ok.mono HB2.out.size)).mono HB00.out.size))) (HX0.out.below (HB00.out.trans ((HB2.out.trans (p.ok.mono HB2.out.size)).mono HB00.out.size))) hoky HOKX.out).mono fun _ _ ⟨hq, hb⟩ => ⟨hq, p.ok.trans (hb.mono p.ok.size)⟩)
     obtain ⟨cv, hcv⟩ : ∃ s, qab y x = s := ⟨_, rfl⟩
     obtain ⟨sv, hsv⟩ : ∃ s, sameR y x = s := ⟨_, rfl⟩
     rw [hcv] at hcg
     rw [hsv] at hcs
     have HCV := qH0 hcv
     have HSV := qH0 (show sv = (cv == 0) by rw [← hsv, ← hcv]; rfl)
     have HGW := qH0 (show w.heap.size ≤ g ∧ wr2.heap[g]? = some (.cells cur 89) from ⟨hgb, hgw⟩)
     obtain ⟨ty, hty⟩ : ∃ t, y.ttl = t := ⟨_, rfl⟩
     rw [hty] at j1 hcg hcs HYC HY1
     have HTY := qH0 hty
     clear h1 hoky hy e1 f0 f1 hsl heo hg' hgb hgw hcv hsv hty
     by_cases hcmp : cv < 0
     ·go_wp2_with fail
      refine qad (fun W => Below wr2.heap.size wr2 W) qae (by kernel_rfl) hcl ?_
      repeat (go_big_quiet_step (exact hcg _))
      refine wpQuiet_nil ?_
      rintro _ ⟨p, rfl⟩
      have HP := qH0 p.ok
      clear g0 g1' g2' g3 g4 g5 g6 j0 j1 j2 j3 j4 j5 j6 hcg hcs
      go_wp2
      go_roundg (m - (k + 1))
      case measure => omega
      case rel => exact ⟨_, k + 1, rfl, by go_num, by omega, by omega, qH0 (fun j h hj => by
       by_cases e : j < k
       ·exact HLS.out j h e
       ·obtain rfl : j = k := by omega
        rw [HY.out, HCV.out]; exact hcmp), qH0 (OwnK.below HO2.out HP.out), qH0 (qB0 HB2.out HP.out)⟩
     ·go_wp2_with fail
      refine qad (fun W => Below wr2.heap.size wr2 W) qae (by kernel_rfl) hcl ?_
      repeat (go_big_quiet_step (exact hcg _))
      refine wpQuiet_nil ?_
      rintro _ ⟨p, rfl⟩
      have hcl2 : (fun W => Below wr2.heap.size wr2 W) p.w.drew := p.ok.trans ⟨rfl, rfl, rfl, qN0, fun _ _ => rfl⟩
      clear hcg
      by_cases heq : cv = 0
      ·have hsv1 : sv = true := by rw [HSV.out, heq]; rfl
       subst hsv1
       go_wp2_with fail
       refine qad (fun W => Below wr2.heap.size wr2 W) qae (by kernel_rfl) hcl2 ?_
       repeat (go_big_quiet_step (exact hcs _))
       refine wpQuiet_nil ?_
       rintro _ ⟨p2, rfl⟩
       have hcl3 : (fun W => Below wr2.heap.size wr2 W) p2.w.drew := p2.ok.trans ⟨rfl, rfl, rfl, qN0, fun _ _ => rfl⟩
       have HHIT := qH0 (qgG x k C (by have := HLC.out; omega) HLS.out (by rw [HY.out, HCV.out]; exact heq))
       clear hcs
       by_cases hlx : x.ttl < ty
       ·have hlxz : (x.ttl : Int) < (ty : Int) := by omega
        go_wp2_with fail
        refine qad (fun W => Below wr2.heap.size wr2 W) qae (by kernel_rfl) hcl3 ?_
        repeat (go_big_quiet_step (fail))
        refine wpQuiet_nil ?_
        rintro _ ⟨p3, rfl⟩
        have HP := qH0 p3.ok
        have hkc2 : k < csd.length := by have := HL.out.1; omega
        have hg3 := (HP.out.block _ (qaa HGW.out.2)).trans HGW.out.2
        have hfz := qag hg3 (k * 7 + 1)
        have s1 := g1' p3
        have s2 := j1 p3
        have HPUT := qH0 (OwnC.put (OwnK.below HO2.out HP.out) HRC.out.ck k hkc2 1 (by decide) (.int .u32 (x.ttl : Int)))
        have HRS := qH0 (HRC.out.set k (RcAt.withTTL x.ttl HY1.out))
        have HCE := qH0 (show csd[k].set 1 (.int .u32 (x.ttl : Int)) = [.slice p0' q0' r0', .int .u32 (x.ttl : Int), .int .i64 y.data.ty, .slice p3' q3' r3', .slice p4' q4' r4', .slice p5' q5' r5', .slice p6' q6' r6'] by rw [HYC.out]; rfl)
        rw [HCE.out] at HPUT
        have HEND := qH0 (show canonM (l.take (i + 1)) = C.set k ⟨y.owner, x.ttl, y.data⟩ by
         rw [HST.out, HHIT.out]
         have e : (⟨C[k].owner, minT C[k].ttl x.ttl, C[k].data⟩ : Rc) = ⟨y.owner, x.ttl, y.data⟩ := by
          rw [HY.out, qh3 (by rw [HTY.out]; exact hlx)]
         rw [e])
        have HGB := qH0 HGW.out.1
        clear g0 g1' g2' g3 g4 g5 g6 j0 j1 j2 j3 j4 j5 j6 hg3
        generalize p3.w = W3 at *
        go_wp2
        go_roundg (n - (i + 1))
        case measure => omega
        case rel => exact ⟨i + 1, _, m, gc, _, _, rfl, by go_num, by omega, by omega, by omega, qH0 ⟨by rw [List.length_set]; exact HL.out.1, HEND.out.symm⟩, HPUT, HRS, qH0 ((qB0 HB2.out HP.out).setCell (p := ⟨g, k * 7 + 1, none⟩) HGB.out _)⟩
       ·have hlxz : ¬ (x.ttl : Int) < (ty : Int) := by omega
        go_wp2_with fail
        refine qad (fun W => Below wr2.heap.size wr2 W) qae (by kernel_rfl) hcl3 ?_
        repeat (go_big_quiet_step (fail))
        refine wpQuiet_nil ?_
        rintro _ ⟨p3, rfl⟩
        have HP := qH0 p3.ok
        have HEND := qH0 (show canonM (l.take (i + 1)) = C by
         rw [HST.out, HHIT.out]
         have e : (⟨(C[k]'(by have := HLC.out; omega)).owner, minT (C[k]'(by have := HLC.out; omega)).ttl x.ttl, (C[k]'(by have := HLC.out; omega)).data⟩ : Rc) = C[k]'(by have := HLC.out; omega) := by
          rw [HY.out, qhY (by rw [HTY.out]; exact hlx)]
         rw [e, List.set_getElem_self])
        clear g0 g1' g2' g3 g4 g5 g6 j0 j1 j2 j3 j4 j5 j6
        go_wp2
        go_roundg (n - (i + 1))
        case measure => omega
        case rel => exact ⟨i + 1, _, m, gc, csd, C, rfl, by go_num, by omega, by omega, by omega, qH0 ⟨HL.out.1, HEND.out.symm⟩, qH0 (OwnK.below HO2.out HP.out), HRC, qH0 (qB0 HB2.out HP.out)⟩
      ·have hsv0 : sv = false := by rw [HSV.out]; simpa using heq
       subst hsv0
       go_wp2_with fail
       refine qad (fun W => Below wr2.heap.size wr2 W) qae (by kernel_rfl) hcl2 ?_
       repeat (go_big_quiet_step (exact hcs _))
       refine wpQuiet_nil ?_
       rintro _ ⟨p2, rfl⟩
       have HGAP := qH0 (qer x k C (by have := HLC.out; omega) HLS.out (fun h => by rw [HY.out, HCV.out]; omega))
       have HP2 := qH0 p2.ok
       have hmc2 := hmc
       clear g0 g1' g2' g3 g4 g5 g6 j0 j1 j2 j3 j4 j5 j6 hcs hmc
       have HB3 := qH0 (qB0 HB2.out HP2.out)
       have HO3 := qH0 (OwnK.below HO2.out HP2.out)
       clear hcl hcl2 hne
       generalize p2.w = W2 at *
       have hsz := HB3.out.size
       have HSZ := qH0 hsz
       have hsl3 : SlK W2 (.slice (some ⟨g, 0, none⟩) m gc) csd := SlK.of_own HO3.out HRC.out.ck
       have HTA := qH0 (hsl3.takeK k hk)
       have htd := hsl3.dropK HRC.out.ck k hk
       rw [Nat.zero_add] at htd
       have HTD := qH0 htd
       have HLK := qH0 (show (csd.take k).length = k by rw [List.length_take]; have := HL.out.1; omega)
       have HLD := qH0 (show (csd.drop k).length = m - k by rw [List.length_drop]; have := HL.out.1; omega)
       have HCK := qH0 (fun cs (h : cs ∈ csd.take k) => HRC.out.ck cs (List.mem_of_mem_take h))
       have HC1 := qH0 (fun cs (h : cs ∈ csd.take k) => one7 HRC.out cs (List.mem_of_mem_take h))
       have HDK := qH0 (fun cs (h : cs ∈ csd.drop k) => HRC.out.ck cs (List.mem_of_mem_drop h))
       have HD1 := qH0 (fun cs (h : cs ∈ csd.drop k) => one7 HRC.out cs (List.mem_of_mem_drop h))
       have HX7 := qH0 (show ∀ cs ∈ ([[.slice p0 q0 r0, .int .u32 (x.ttl : Int), .int .i64 x.data.ty, .slice p3 q3 r3, .slice p4 q4 r4, .slice p5 q5 r5, .slice p6 q6 r6]] : List (List Value)), cs.length = 7 by intro cs hc; rw [List.mem_singleton] at hc; subst hc; rfl)
       have HX1 := qH0 (show ∀ cs ∈ ([[.slice p0 q0 r0, .int .u32 (x.ttl : Int), .int .i64 x.data.ty, .slice p3 q3 r3, .slice p4 q4 r4, .slice p5 q5 r5, .slice p6 q6 r6]] : List (List Value)), ∀ u ∈ cs, u.oneCell' = true by
        intro cs hc u hu; rw [List.mem_singleton] at hc; subst hc; exact HX0.out.one u hu)
       have hbd : Below W2.heap.size W2 W2.drew := ⟨rfl, rfl, rfl, qN0, fun _ _ => rfl⟩
       have hbA : Below W2.heap.size W2 (W2.alloc (.cells #[] 89)).drew := hbd.alloc (qN0) _
       have hbB : Below W2.heap.size W2 ((W2.alloc (.cells #[] 89)).alloc (.cells #[.slice p0 q0 r0, .int .u32 (x.ttl : Int), .int .i64 x.data.ty, .slice p3 q3 r3, .slice p4 q4 r4, .slice p5 q5 r5, .slice p6 q6 r6] 89)).drew := hbA.alloc (by simp) _
       have hbC : Below W2.heap.size W2 ((W2.alloc (.cells #[.slice p0 q0 r0, .int .u32 (x.ttl : Int), .int .i64 x.data.ty, .slice p3 q3 r3, .slice p4 q4 r4, .slice p5 q5 r5, .slice p6 q6 r6] 89)).alloc (.cells #[] 89)).drew := (hbd.alloc (qN0) _).alloc (by simp) _
       have HBA := qH0 hbA; have HBB := qH0 hbB; have HBC := qH0 hbC
       have HOA := qH0 (show OwnC 7 89 ((W2.alloc (.cells #[] 89)).drew) W2.heap.size (.slice (some ⟨W2.heap.size, 0, none⟩) 0 0) [] from qau 7 89 W2.drew)
       have HOB := qH0 (show OwnC 7 89 (((W2.alloc (.cells #[] 89)).alloc (.cells #[.slice p0 q0 r0, .int .u32 (x.ttl : Int), .int .i64 x.data.ty, .slice p3 q3 r3, .slice p4 q4 r4, .slice p5 q5 r5, .slice p6 q6 r6] 89)).drew) W2.heap.size (.slice (some ⟨W2.heap.size, 0, none⟩) 0 0) [] from OwnK.alloc (qau 7 89 W2.drew) _)
       have hoC := qau 7 89 (W2.drew.alloc (.cells #[.slice p0 q0 r0, .int .u32 (x.ttl : Int), .int .i64 x.data.ty, .slice p3 q3 r3, .slice p4 q4 r4, .slice p5 q5 r5, .slice p6 q6 r6] 89))
       rw [World.size_alloc] at hoC
       have HOC := qH0 (show OwnC 7 89 (((W2.alloc (.cells #[.slice p0 q0 r0, .int .u32 (x.ttl : Int), .int .i64 x.data.ty, .slice p3 q3 r3, .slice p4 q4 r4, .slice p5 q5 r5, .slice p6 q6 r6] 89)).alloc (.cells #[] 89)).drew) W2.heap.size (.slice (some ⟨W2.heap.size + 1, 0, none⟩) 0 0) [] from OwnK.weaken hoC (by show W2.heap.size ≤ W2.heap.size + 1; omega))
       have hkB := knew (W2.drew.alloc (.cells #[] 89)) (.cells #[.slice p0 q0 r0, .int .u32 (x.ttl : Int), .int .i64 x.data.ty, .slice p3 q3 r3, .slice p4 q4 r4, .slice p5 q5 r5, .slice p6 q6 r6] 89)
       rw [World.size_alloc] at hkB
       have HKB := qH0 (show ((W2.alloc (.cells #[] 89)).alloc (.cells #[.slice p0 q0 r0, .int .u32 (x.ttl : Int), .int .i64 x.data.ty, .slice p3 q3 r3, .slice p4 q4 r4, .slice p5 q5 r5, .slice p6 q6 r6] 89)).drew.heap[W2.heap.size + 1]? = some (.cells #[.slice p0 q0 r0, .int .u32 (x.ttl : Int), .int .i64 x.data.ty, .slice p3 q3 r3, .slice p4 q4 r4, .slice p5 q5 r5, .slice p6 q6 r6] 89) from hkB)
       have HKC := qH0 (show ((W2.alloc (.cells #[.slice p0 q0 r0, .int .u32 (x.ttl : Int), .int .i64 x.data.ty, .slice p3 q3 r3, .slice p4 q4 r4, .slice p5 q5 r5, .slice p6 q6 r6] 89)).alloc (.cells #[] 89)).drew.heap[W2.heap.size]? = some (.cells #[.slice p0 q0 r0, .int .u32 (x.ttl : Int), .int .i64 x.data.ty, .slice p3 q3 r3, .slice p4 q4 r4, .slice p5 q5 r5, .slice p6 q6 r6] 89) from (Below.heap_alloc (W2.drew.alloc (.cells #[.slice p0 q0 r0, .int .u32 (x.ttl : Int), .int .i64 x.data.ty, .slice p3 q3 r3, .slice p4 q4 r4, .slice p5 q5 r5, .slice p6 q6 r6] 89)) (.cells #[] 89) W2.heap.size (by simp)).trans (knew W2.drew (.cells #[.slice p0 q0 r0, .int .u32 (x.ttl : Int), .int .i64 x.data.ty, .slice p3 q3 r3, .slice p4 q4 r4, .slice p5 q5 r5, .slice p6 q6 r6] 89)))
       obtain ⟨c0, c1, c2, c3, c4, c5, c6⟩ := HE.out W2.drew (HB3.out.trans (hbd.mono hsz))
       obtain ⟨d0, d1, d2, d3, d4, d5, d6⟩ := HE.out ((W2.alloc (.cells #[] 89)).drew) (HB3.out.trans (hbA.mono hsz))
       have hk0 : (0 : Int) ≤ (k : Int) := by omega
       have hkm1 : (k : Int) ≤ (m : Int) := by omega
       have hkc1 : (k : Int) ≤ (gc : Int) := by omega
       have hmc1 : (m : Int) ≤ (gc : Int) := by omega
       have HNK := qH0 (show k ≤ 1000000 ∧ m ≤ 1000000 by omega)
       have H4A := qH0 (qah ((W2.alloc (.cells #[] 89)).drew) (.tmp 66) (.tmp 69) qao (by decide) W2.heap.size (.slice (some ⟨W2.heap.size, 0, none⟩) 0 0) [] HOA.out (.slice (some ⟨g, 0, none⟩) k gc) (csd.take k) (HTA.out.below HBA.out) HCK.out HC1.out HBA.out.size (by have := HNK.out; rw [HLK.out]; unfold maxLen; simp <;> omega) (by have := HNK.out; rw [HLK.out]; simp <;> omega))
       have H4B := qH0 (qah (((W2.alloc (.cells #[] 89)).alloc (.cells #[.slice p0 q0 r0, .int .u32 (x.ttl : Int), .int .i64 x.data.ty, .slice p3 q3 r3, .slice p4 q4 r4, .slice p5 q5 r5, .slice p6 q6 r6] 89)).drew) (.tmp 66) (.tmp 69) qao (by decide) W2.heap.size (.slice (some ⟨W2.heap.size, 0, none⟩) 0 0) [] HOB.out (.slice (some ⟨g, 0, none⟩) k gc) (csd.take k) (HTA.out.below HBB.out) HCK.out HC1.out HBB.out.size (by have := HNK.out; rw [HLK.out]; unfold maxLen; simp <;> omega) (by have := HNK.out; rw [HLK.out]; simp <;> omega))
       have H4C := qH0 (qah (((W2.alloc (.cells #[.slice p0 q0 r0, .int .u32 (x.ttl : Int), .int .i64 x.data.ty, .slice p3 q3 r3, .slice p4 q4 r4, .slice p5 q5 r5, .slice p6 q6 r6] 89)).alloc (.cells #[] 89)).drew) (.tmp 66) (.tmp 69) qao (by decide) W2.heap.size (.slice (some ⟨W2.heap.size + 1, 0, none⟩) 0 0) [] HOC.out (.slice (some ⟨g, 0, none⟩) k gc) (csd.take k) (HTA.out.below HBC.out) HCK.out HC1.out HBC.out.size (by have := HNK.out; rw [HLK.out]; unfold maxLen; simp <;> omega) (by have := HNK.out; rw [HLK.out]; simp <;> omega))
       clear hsl3 hbd hbA hbB hbC hoC hkB
       go_wp2_with fail
       go_region_law (first
        | ((with_reducible refine H4A.out _ _ _ _ _ _ ?_ ?_ ?_ ?_ ?_); exact rfl; exact rfl; exact rfl; exact rfl; intro v4 w4 ho4 hg4; rw [List.nil_append] at ho4; have HO4 := qH0 ho4; have HB4 := qH0 (HBA.out.grown hg4 HBA.out.size (OwnK.base_le HOA.out)); have H10 := qH0 (qah (w4.alloc (.cells #[.slice p0 q0 r0, .int .u32 (x.ttl : Int), .int .i64 x.data.ty, .slice p3 q3 r3, .slice p4 q4 r4, .slice p5 q5 r5, .slice p6 q6 r6] 89)) (.tmp 70) (.tmp 75) qao (by decide) W2.heap.size v4 (csd.take k) (OwnK.alloc HO4.out _) (.slice (some ⟨w4.heap.size, 0, none⟩) 1 1) [[.slice p0 q0 r0, .int .u32 (x.ttl : Int), .int .i64 x.data.ty, .slice p3 q3 r3, .slice p4 q4 r4, .slice p5 q5 r5, .slice p6 q6 r6]] (qay (css := [[.slice p0 q0 r0, .int .u32 (x.ttl : Int), .int .i64 x.data.ty, .slice p3 q3 r3, .slice p4 q4 r4, .slice p5 q5 r5, .slice p6 q6 r6]]) (knew w4 _)) HX7.out HX1.out (by have := HB4.out.size; simp <;> omega) (by have := HNK.out; rw [HLK.out]; unfold maxLen; simp <;> omega) (by have := HNK.out; rw [HLK.out]; simp <;> omega)); have H10B := qH0 (fun (w5 : World) (hg : World.grownBy (w4.alloc (.cells #[.slice p0 q0 r0, .int .u32 (x.ttl : Int), .int .i64 x.data.ty, .slice p3 q3 r3, .slice p4 q4 r4, .slice p5 q5 r5, .slice p6 q6 r6] 89)) w5 v4.ownBlock) => ((HB4.out.alloc HB4.out.size _).grown hg (by have := HB4.out.size; simp <;> omega) (OwnK.base_le HO4.out))); obtain ⟨e0, e1, e2, e3, e4, e5, e6⟩ := HE.out w4 (HB3.out.trans (HB4.out.mono HSZ.out)); clear ho4 hg4)
        | ((with_reducible refine H4B.out _ _ _ _ _ _ ?_ ?_ ?_ ?_ ?_); exact rfl; exact rfl; exact rfl; exact rfl; intro v4 w4 ho4 hg4; rw [List.nil_append] at ho4; have HO4 := qH0 ho4; have HB4 := qH0 (HBB.out.grown hg4 HBB.out.size (OwnK.base_le HOB.out)); have HBX := qH0 ((hg4.block (W2.heap.size + 1) (qaa HKB.out) (by simp [Value.ownBlock])).trans HKB.out); have H10 := qH0 (qah (w4) (.tmp 70) (.tmp 75) qao (by decide) W2.heap.size v4 (csd.take k) (HO4.out) (.slice (some ⟨W2.heap.size + 1, 0, none⟩) 1 1) [[.slice p0 q0 r0, .int .u32 (x.ttl : Int), .int .i64 x.data.ty, .slice p3 q3 r3, .slice p4 q4 r4, .slice p5 q5 r5, .slice p6 q6 r6]] (qay (css := [[.slice p0 q0 r0, .int .u32 (x.ttl : Int), .int .i64 x.data.ty, .slice p3 q3 r3, .slice p4 q4 r4, .slice p5 q5 r5, .slice p6 q6 r6]]) HBX.out) HX7.out HX1.out (HB4.out.size) (by have := HNK.out; rw [HLK.out]; unfold maxLen; simp <;> omega) (by have := HNK.out; rw [HLK.out]; simp <;> omega)); have H10B := qH0 (fun (w5 : World) (hg : World.grownBy (w4) w5 v4.ownBlock) => (HB4.out.grown hg HB4.out.size (OwnK.base_le HO4.out))); clear ho4 hg4)
        | ((with_reducible refine H4C.out _ _ _ _ _ _ ?_ ?_ ?_ ?_ ?_); exact rfl; exact rfl; exact rfl; exact rfl; intro v4 w4 ho4 hg4; rw [List.nil_append] at ho4; have HO4 := qH0 ho4; have HB4 := qH0 (HBC.out.grown hg4 HBC.out.size (OwnK.base_le HOC.out)); have HBX := qH0 ((hg4.block W2.heap.size (qaa HKC.out) (by simp [Value.ownBlock])).trans HKC.out); have H10 := qH0 (qah (w4) (.tmp 70) (.tmp 75) qao (by decide) W2.heap.size v4 (csd.take k) (HO4.out) (.slice (some ⟨W2.heap.size, 0, none⟩) 1 1) [[.slice p0 q0 r0, .int .u32 (x.ttl : Int), .int .i64 x.data.ty, .slice p3 q3 r3, .slice p4 q4 r4, .slice p5 q5 r5, .slice p6 q6 r6]] (qay (css := [[.slice p0 q0 r0, .int .u32 (x.ttl : Int), .int .i64 x.data.ty, .slice p3 q3 r3, .slice p4 q4 r4, .slice p5 q5 r5, .slice p6 q6 r6]]) HBX.out) HX7.out HX1.out (HB4.out.size) (by have := HNK.out; rw [HLK.out]; unfold maxLen; simp <;> omega) (by have := HNK.out; rw [HLK.out]; simp <;> omega)); have H10B := qH0 (fun (w5 : World) (hg : World.grownBy (w4) w5 v4.ownBlock) => (HB4.out.grown hg HB4.out.size (OwnK.base_le HO4.out))); clear ho4 hg4)
        | ((with_reducible refine H10.out _ _ _ _ _ _ ?_ ?_ ?_ ?_ ?_); exact rfl; exact rfl; exact rfl; exact rfl; intro v5 w5 ho5 hg5; have HO5 := qH0 ho5; have HB5 := qH0 (H10B.out w5 hg5); clear ho5 hg5))
       all_goals
        obtain ⟨a5, z5, e5⟩ := OwnK.shape HO5.out
        rw [List.length_append, HLK.out] at e5
        simp only [List.length_cons, List.length_nil, Nat.zero_add] at e5
        subst e5
        clear c0 c1 c2 c3 c4 c5 c6 d0 d1 d2 d3 d4 d5 d6
        go_wp2_with (at_builtin; refine qar w5 rfl (.tmp 77) (.tmp 80) qao (by decide) rfl W2.heap.size (.slice a5 _ z5) _ rfl HO5.out (.slice (some ⟨g, k * 7, none⟩) (m - k) (gc - k)) (csd.drop k) rfl (HTD.out.below HB5.out) HDK.out HD1.out HB5.out.size (by have := HNK.out; rw [List.length_append, HLK.out, HLD.out]; unfold maxLen; simp <;> omega) (by have := HNK.out; rw [List.length_append, HLK.out, HLD.out]; simp <;> omega) ?_; intro v6 w6 ho6 hg6)
        have HO6 := qH0 ho6
        have HB6 := qH0 (HB5.out.grown hg6 HB5.out.size (OwnK.base_le HO5.out))
        clear ho6 hg6
        obtain ⟨a6, c6, e6⟩ := OwnK.shape HO6.out
        have hl6 : (csd.take k ++ ([[.slice p0 q0 r0, .int .u32 (x.ttl : Int), .int .i64 x.data.ty, .slice p3 q3 r3, .slice p4 q4 r4, .slice p5 q5 r5, .slice p6 q6 r6]] : List (List Value)) ++ csd.drop k).length = m + 1 := by rw [List.length_append, List.length_append, HLK.out, HLD.out]; simp <;> omega
        rw [hl6] at e6
        subst e6
        go_roundg (n - (i + 1))
        case measure => omega
        case rel => exact ⟨i + 1, a6, m + 1, c6, _, _, rfl, by go_num, by omega, by omega, by omega, qH0 ⟨hl6, by rw [HST.out, HGAP.out]⟩, qH0 (OwnK.weaken HO6.out HSZ.out), qH0 (HRC.out.gap k HX0.out), qH0 (HB3.out.trans (HB6.out.mono HSZ.out))⟩
    ·have hkz : ¬ (k : Int) < (m : Int) := by omega
     have HGAP := qH0 (qer x k C (by have := HLC.out; omega) HLS.out (fun h => by have := HLC.out; omega))
     go_wp2_with fail
     refine qad (fun W => Below wr2.heap.size wr2 W) qae (by kernel_rfl) hcl ?_
     repeat (go_big_quiet_step (fail))
     refine wpQuiet_nil ?_
     rintro _ ⟨p, rfl⟩
     have hcl2 : (fun W => Below wr2.heap.size wr2 W) p.w.drew := p.ok.trans ⟨rfl, rfl, rfl, qN0, fun _ _ => rfl⟩
     go_wp2_with fail
     refine qad (fun W => Below wr2.heap.size wr2 W) qae (by kernel_rfl) hcl2 ?_
     repeat (go_big_quiet_step (fail))
     refine wpQuiet_nil ?_
     rintro _ ⟨p2, rfl⟩
     have HP2 := qH0 p2.ok
     rcases OwnC.some' HO2.out with ⟨rfl, rfl, rfl, rfl⟩ | ⟨g, cur, rfl, hgb, hgw, hmc2, -⟩
     ·obtain rfl : k = 0 := by omega
      have HB3 := qH0 (qB0 HB2.out HP2.out)
      have HO3 := qH0 (OwnK.below HO2.out HP2.out)
      clear hcl hcl2 hne
      generalize p2.w = W2 at *
      have hsz := HB3.out.size
      have HSZ := qH0 hsz
      have hsl3 : SlK W2 (.slice none 0 0) [] := SlK.of_own HO3.out HRC.out.ck
      have HTA := qH0 hsl3
      have HTD := qH0 (show SlK W2 (.slice none 0 0) ([] : List (List Value)) from SlK.nil W2)
      have HLK := qH0 (show (([] : List (List Value))).length = 0 from rfl)
      have HLD := qH0 (show (([] : List (List Value))).length = 0 - 0 from rfl)
      have HCK := qH0 (show ∀ cs ∈ ([] : List (List Value)), cs.length = 7 from fun cs h => absurd h (by simp))
      have HC1 := qH0 (show ∀ cs ∈ ([] : List (List Value)), ∀ u ∈ cs, u.oneCell' = true from fun cs h => absurd h (by simp))
      have HDK := qH0 (show ∀ cs ∈ ([] : List (List Value)), cs.length = 7 from fun cs h => absurd h (by simp))
      have HD1 := qH0 (show ∀ cs ∈ ([] : List (List Value)), ∀ u ∈ cs, u.oneCell' = true from fun cs h => absurd h (by simp))
      have HX7 := qH0 (show ∀ cs ∈ ([[.slice p0 q0 r0, .int .u32 (x.ttl : Int), .int .i64 x.data.ty, .slice p3 q3 r3, .slice p4 q4 r4, .slice p5 q5 r5, .slice p6 q6 r6]] : List (List Value)), cs.length = 7 by intro cs hc; rw [List.mem_singleton] at hc; subst hc; rfl)
      have HX1 := qH0 (show ∀ cs ∈ ([[.slice p0 q0 r0, .int .u32 (x.ttl : Int), .int .i64 x.data.ty, .slice p3 q3 r3, .slice p4 q4 r4, .slice p5 q5 r5, .slice p6 q6 r6]] : List (List Value)), ∀ u ∈ cs, u.oneCell' = true by
       intro cs hc u hu; rw [List.mem_singleton] at hc; subst hc; exact HX0.out.one u hu)
      have hbd : Below W2.heap.size W2 W2.drew := ⟨rfl, rfl, rfl, qN0, fun _ _ => rfl⟩
      have hbA : Below W2.heap.size W2 (W2.alloc (.cells #[] 89)).drew := hbd.alloc (qN0) _
      have hbB : Below W2.heap.size W2 ((W2.alloc (.cells #[] 89)).alloc (.cells #[.slice p0 q0 r0, .int .u32 (x.ttl : Int), .int .i64 x.data.ty, .slice p3 q3 r3, .slice p4 q4 r4, .slice p5 q5 r5, .slice p6 q6 r6] 89)).drew := hbA.alloc (by simp) _
      have hbC : Below W2.heap.size W2 ((W2.alloc (.cells #[.slice p0 q0 r0, .int .u32 (x.ttl : Int), .int .i64 x.data.ty, .slice p3 q3 r3, .slice p4 q4 r4, .slice p5 q5 r5, .slice p6 q6 r6] 89)).alloc (.cells #[] 89)).drew := (hbd.alloc (qN0) _).alloc (by simp) _
      have HBA := qH0 hbA; have HBB := qH0 hbB; have HBC := qH0 hbC
      have HOA := qH0 (show OwnC 7 89 ((W2.alloc (.cells #[] 89)).drew) W2.heap.size (.slice (some ⟨W2.heap.size, 0, none⟩) 0 0) [] from qau 7 89 W2.drew)
      have HOB := qH0 (show OwnC 7 89 (((W2.alloc (.cells #[] 89)).alloc (.cells #[.slice p0 q0 r0, .int .u32 (x.ttl : Int), .int .i64 x.data.ty, .slice p3 q3 r3, .slice p4 q4 r4, .slice p5 q5 r5, .slice p6 q6 r6] 89)).drew) W2.heap.size (.slice (some ⟨W2.heap.size, 0, none⟩) 0 0) [] from OwnK.alloc (qau 7 89 W2.drew) _)
      have hoC := qau 7 89 (W2.drew.alloc (.cells #[.slice p0 q0 r0, .int .u32 (x.ttl : Int), .int .i64 x.data.ty, .slice p3 q3 r3, .slice p4 q4 r4, .slice p5 q5 r5, .slice p6 q6 r6] 89))
      rw [World.size_alloc] at hoC
      have HOC := qH0 (show OwnC 7 89 (((W2.alloc (.cells #[.slice p0 q0 r0, .int .u32 (x.ttl : Int), .int .i64 x.data.ty, .slice p3 q3 r3, .slice p4 q4 r4, .slice p5 q5 r5, .slice p6 q6 r6] 89)).alloc (.cells #[] 89)).drew) W2.heap.size (.slice (some ⟨W2.heap.size + 1, 0, none⟩) 0 0) [] from OwnK.weaken hoC (by show W2.heap.size ≤ W2.heap.size + 1; omega))
      have hkB := knew (W2.drew.alloc (.cells #[] 89)) (.cells #[.slice p0 q0 r0, .int .u32 (x.ttl : Int), .int .i64 x.data.ty, .slice p3 q3 r3, .slice p4 q4 r4, .slice p5 q5 r5, .slice p6 q6 r6] 89)
      rw [World.size_alloc] at hkB
      have HKB := qH0 (show ((W2.alloc (.cells #[] 89)).alloc (.cells #[.slice p0 q0 r0, .int .u32 (x.ttl : Int), .int .i64 x.data.ty, .slice p3 q3 r3, .slice p4 q4 r4, .slice p5 q5 r5, .slice p6 q6 r6] 89)).drew.heap[W2.heap.size + 1]? = some (.cells #[.slice p0 q0 r0, .int .u32 (x.ttl : Int), .int .i64 x.data.ty, .slice p3 q3 r3, .slice p4 q4 r4, .slice p5 q5 r5, .slice p6 q6 r6] 89) from hkB)
      have HKC := qH0 (show ((W2.alloc (.cells #[.slice p0 q0 r0, .int .u32 (x.ttl : Int), .int .i64 x.data.ty, .slice p3 q3 r3, .slice p4 q4 r4, .slice p5 q5 r5, .slice p6 q6 r6] 89)).alloc (.cells #[] 89)).drew.heap[W2.heap.size]? = some (.cells #[.slice p0 q0 r0, .int .u32 (x.ttl : Int), .int .i64 x.data.ty, .slice p3 q3 r3, .slice p4 q4 r4, .slice p5 q5 r5, .slice p6 q6 r6] 89) from (Below.heap_alloc (W2.drew.alloc (.cells #[.slice p0 q0 r0, .int .u32 (x.ttl : Int), .int .i64 x.data.ty, .slice p3 q3 r3, .slice p4 q4 r4, .slice p5 q5 r5, .slice p6 q6 r6] 89)) (.cells #[] 89) W2.heap.size (by simp)).trans (knew W2.drew (.cells #[.slice p0 q0 r0, .int .u32 (x.ttl : Int), .int .i64 x.data.ty, .slice p3 q3 r3, .slice p4 q4 r4, .slice p5 q5 r5, .slice p6 q6 r6] 89)))
      obtain ⟨c0, c1, c2, c3, c4, c5, c6⟩ := HE.out W2.drew (HB3.out.trans (hbd.mono hsz))
      obtain ⟨d0, d1, d2, d3, d4, d5, d6⟩ := HE.out ((W2.alloc (.cells #[] 89)).drew) (HB3.out.trans (hbA.mono hsz))
      have hk0 : (0 : Int) ≤ (0 : Int) := by omega
      have hkm1 : (0 : Int) ≤ (0 : Int) := by omega
      have hkc1 : (0 : Int) ≤ (0 : Int) := by omega
      have hmc1 : (0 : Int) ≤ (0 : Int) := by omega
      have HNK := qH0 (show 0 ≤ 1000000 ∧ 0 ≤ 1000000 by omega)
      have H4A := qH0 (qah ((W2.alloc (.cells #[] 89)).drew) (.tmp 66) (.tmp 69) qao (by decide) W2.heap.size (.slice (some ⟨W2.heap.size, 0, none⟩) 0 0) [] HOA.out (.slice none 0 0) (([] : List (List Value))) (HTA.out.below HBA.out) HCK.out HC1.out HBA.out.size (by have := HNK.out; rw [HLK.out]; unfold maxLen; simp <;> omega) (by have := HNK.out; rw [HLK.out]; simp <;> omega))
      have H4B := qH0 (qah (((W2.alloc (.cells #[] 89)).alloc (.cells #[.slice p0 q0 r0, .int .u32 (x.ttl : Int), .int .i64 x.data.ty, .slice p3 q3 r3, .slice p4 q4 r4, .slice p5 q5 r5, .slice p6 q6 r6] 89)).drew) (.tmp 66) (.tmp 69) qao (by decide) W2.heap.size (.slice (some ⟨W2.heap.size, 0, none⟩) 0 0) [] HOB.out (.slice none 0 0) (([] : List (List Value))) (HTA.out.below HBB.out) HCK.out HC1.out HBB.out.size (by have := HNK.out; rw [HLK.out]; unfold maxLen; simp <;> omega) (by have := HNK.out; rw [HLK.out]; simp <;> omega))
      have H4C := qH0 (qah (((W2.alloc (.cells #[.slice p0 q0 r0, .int .u32 (x.ttl : Int), .int .i64 x.data.ty, .slice p3 q3 r3, .slice p4 q4 r4, .slice p5 q5 r5, .slice p6 q6 r6] 89)).alloc (.cells #[] 89)).drew) (.tmp 66) (.tmp 69) qao (by decide) W2.heap.size (.slice (some ⟨W2.heap.size + 1, 0, none⟩) 0 0) [] HOC.out (.slice none 0 0) (([] : List (List Value))) (HTA.out.below HBC.out) HCK.out HC1.out HBC.out.size (by have := HNK.out; rw [HLK.out]; unfold maxLen; simp <;> omega) (by have := HNK.out; rw [HLK.out]; simp <;> omega))
      clear hsl3 hbd hbA hbB hbC hoC hkB
      go_wp2_with fail
      go_region_law (first
       | ((with_reducible refine H4A.out _ _ _ _ _ _ ?_ ?_ ?_ ?_ ?_); exact rfl; exact rfl; exact rfl; exact rfl; intro v4 w4 ho4 hg4; rw [List.nil_append] at ho4; have HO4 := qH0 ho4; have HB4 := qH0 (HBA.out.grown hg4 HBA.out.size (OwnK.base_le HOA.out)); have H10 := qH0 (qah (w4.alloc (.cells #[.slice p0 q0 r0, .int .u32 (x.ttl : Int), .int .i64 x.data.ty, .slice p3 q3 r3, .slice p4 q4 r4, .slice p5 q5 r5, .slice p6 q6 r6] 89)) (.tmp 70) (.tmp 75) qao (by decide) W2.heap.size v4 (([] : List (List Value))) (OwnK.alloc HO4.out _) (.slice (some ⟨w4.heap.size, 0, none⟩) 1 1) [[.slice p0 q0 r0, .int .u32 (x.ttl : Int), .int .i64 x.data.ty, .slice p3 q3 r3, .slice p4 q4 r4, .slice p5 q5 r5, .slice p6 q6 r6]] (qay (css := [[.slice p0 q0 r0, .int .u32 (x.ttl : Int), .int .i64 x.data.ty, .slice p3 q3 r3, .slice p4 q4 r4, .slice p5 q5 r5, .slice p6 q6 r6]]) (knew w4 _)) HX7.out HX1.out (by have := HB4.out.size; simp <;> omega) (by have := HNK.out; rw [HLK.out]; unfold maxLen; simp <;> omega) (by have := HNK.out; rw [HLK.out]; simp <;> omega)); have H10B := qH0 (fun (w5 : World) (hg : World.grownBy (w4.alloc (.cells #[.slice p0 q0 r0, .int .u32 (x.ttl : Int), .int .i64 x.data.ty, .slice p3 q3 r3, .slice p4 q4 r4, .slice p5 q5 r5, .slice p6 q6 r6] 89)) w5 v4.ownBlock) => ((HB4.out.alloc HB4.out.size _).grown hg (by have := HB4.out.size; simp <;> omega) (OwnK.base_le HO4.out))); obtain ⟨e0, e1, e2, e3, e4, e5, e6⟩ := HE.out w4 (HB3.out.trans (HB4.out.mono HSZ.out)); clear ho4 hg4)
       | ((with_reducible refine H4B.out _ _ _ _ _ _ ?_ ?_ ?_ ?_ ?_); exact rfl; exact rfl; exact rfl; exact rfl; intro v4 w4 ho4 hg4; rw [List.nil_append] at ho4; have HO4 := qH0 ho4; have HB4 := qH0 (HBB.out.grown hg4 HBB.out.size (OwnK.base_le HOB.out)); have HBX := qH0 ((hg4.block (W2.heap.size + 1) (qaa HKB.out) (by simp [Value.ownBlock])).trans HKB.out); have H10 := qH0 (qah (w4) (.tmp 70) (.tmp 75) qao (by decide) W2.heap.size v4 (([] : List (List Value))) (HO4.out) (.slice (some ⟨W2.heap.size + 1, 0, none⟩) 1 1) [[.slice p0 q0 r0, .int .u32 (x.ttl : Int), .int .i64 x.data.ty, .slice p3 q3 r3, .slice p4 q4 r4, .slice p5 q5 r5, .slice p6 q6 r6]] (qay (css := [[.slice p0 q0 r0, .int .u32 (x.ttl : Int), .int .i64 x.data.ty, .slice p3 q3 r3, .slice p4 q4 r4, .slice p5 q5 r5, .slice p6 q6 r6]]) HBX.out) HX7.out HX1.out (HB4.out.size) (by have := HNK.out; rw [HLK.out]; unfold maxLen; simp <;> omega) (by have := HNK.out; rw [HLK.out]; simp <;> omega)); have H10B := qH0 (fun (w5 : World) (hg : World.grownBy (w4) w5 v4.ownBlock) => (HB4.out.grown hg HB4.out.size (OwnK.base_le HO4.out))); clear ho4 hg4)
       | ((with_reducible refine H4C.out _ _ _ _ _ _ ?_ ?_ ?_ ?_ ?_); exact rfl; exact rfl; exact rfl; exact rfl; intro v4 w4 ho4 hg4; rw [List.nil_append] at ho4; have HO4 := qH0 ho4; have HB4 := qH0 (HBC.out.grown hg4 HBC.out.size (OwnK.base_le HOC.out)); have HBX := qH0 ((hg4.block W2.heap.size (qaa HKC.out) (by simp [Value.ownBlock])).trans HKC.out); have H10 := qH0 (qah (w4) (.tmp 70) (.tmp 75) qao (by decide) W2.heap.size v4 (([] : List (List Value))) (HO4.out) (.slice (some ⟨W2.heap.size, 0, none⟩) 1 1) [[.slice p0 q0 r0, .int .u32 (x.ttl : Int), .int .i64 x.data.ty, .slice p3 q3 r3, .slice p4 q4 r4, .slice p5 q5 r5, .slice p6 q6 r6]] (qay (css := [[.slice p0 q0 r0, .int .u32 (x.ttl : Int), .int .i64 x.data.ty, .slice p3 q3 r3, .slice p4 q4 r4, .slice p5 q5 r5, .slice p6 q6 r6]]) HBX.out) HX7.out HX1.out (HB4.out.size) (by have := HNK.out; rw [HLK.out]; unfold maxLen; simp <;> omega) (by have := HNK.out; rw [HLK.out]; simp <;> omega)); have H10B := qH0 (fun (w5 : World) (hg : World.grownBy (w4) w5 v4.ownBlock) => (HB4.out.grown hg HB4.out.size (OwnK.base_le HO4.out))); clear ho4 hg4)
       | ((with_reducible refine H10.out _ _ _ _ _ _ ?_ ?_ ?_ ?_ ?_); exact rfl; exact rfl; exact rfl; exact rfl; intro v5 w5 ho5 hg5; have HO5 := qH0 ho5; have HB5 := qH0 (H10B.out w5 hg5); clear ho5 hg5))
      all_goals
       obtain ⟨a5, z5, e5⟩ := OwnK.shape HO5.out
       rw [List.length_append, HLK.out] at e5
       simp only [List.length_cons, List.length_nil, Nat.zero_add] at e5
       subst e5
       clear c0 c1 c2 c3 c4 c5 c6 d0 d1 d2 d3 d4 d5 d6
       go_wp2_with (at_builtin; refine qar w5 rfl (.tmp 77) (.tmp 80) qao (by decide) rfl W2.heap.size (.slice a5 _ z5) _ rfl HO5.out (.slice none 0 0) (([] : List (List Value))) rfl (HTD.out.below HB5.out) HDK.out HD1.out HB5.out.size (by unfold maxLen; simp) (by simp) ?_; intro v6 w6 ho6 hg6)
       have HO6 := qH0 ho6
       have HB6 := qH0 (HB5.out.grown hg6 HB5.out.size (OwnK.base_le HO5.out))
       clear ho6 hg6
       obtain ⟨a6, c6, e6⟩ := OwnK.shape HO6.out
       have hl6 : (([] : List (List Value)) ++ ([[.slice p0 q0 r0, .int .u32 (x.ttl : Int), .int .i64 x.data.ty, .slice p3 q3 r3, .slice p4 q4 r4, .slice p5 q5 r5, .slice p6 q6 r6]] : List (List Value)) ++ ([] : List (List Value))).length = 0 + 1 := by simp
       rw [hl6] at e6
       subst e6
       go_roundg (n - (i + 1))
       case measure => omega
       case rel => exact ⟨i + 1, a6, 0 + 1, c6, _, _, rfl, by go_num, by omega, by omega, by omega, qH0 ⟨hl6, by rw [HST.out, HGAP.out]⟩, qH0 (OwnK.weaken HO6.out HSZ.out), qH0 (HRC.out.gap 0 HX0.out), qH0 (HB3.out.trans (HB6.out.mono HSZ.out))⟩
     ·clear hgb hgw
      have HB3 := qH0 (qB0 HB2.out HP2.out)
      have HO3 := qH0 (OwnK.below HO2.out HP2.out)
      clear hcl hcl2 hne
      generalize p2.w = W2 at *
      have hsz := HB3.out.size
      have HSZ := qH0 hsz
      have hsl3 : SlK W2 (.slice (some ⟨g, 0, none⟩) m gc) csd := SlK.of_own HO3.out HRC.out.ck
      have HTA := qH0 (hsl3.takeK k hk)
      have htd := hsl3.dropK HRC.out.ck k hk
      rw [Nat.zero_add] at htd
      have HTD := qH0 htd
      have HLK := qH0 (show (csd.take k).length = k by rw [List.length_take]; have := HL.out.1; omega)
      have HLD := qH0 (show (csd.drop k).length = m - k by rw [List.length_drop]; have := HL.out.1; omega)
      have HCK := qH0 (fun cs (h : cs ∈ csd.take k) => HRC.out.ck cs (List.mem_of_mem_take h))
      have HC1 := qH0 (fun cs (h : cs ∈ csd.take k) => one7 HRC.out cs (List.mem_of_mem_take h))
      have HDK := qH0 (fun cs (h : cs ∈ csd.drop k) => HRC.out.ck cs (List.mem_of_mem_drop h))
      have HD1 := qH0 (fun cs (h : cs ∈ csd.drop k) => one7 HRC.out cs (List.mem_of_mem_drop h))
      have HX7 := qH0 (show ∀ cs ∈ ([[.slice p0 q0 r0, .int .u32 (x.ttl : Int), .int .i64 x.data.ty, .slice p3 q3 r3, .slice p4 q4 r4, .slice p5 q5 r5, .slice p6 q6 r6]] : List (List Value)), cs.length = 7 by intro cs hc; rw [List.mem_singleton] at hc; subst hc; rfl)
      have HX1 := qH0 (show ∀ cs ∈ ([[.slice p0 q0 r0, .int .u32 (x.ttl : Int), .int .i64 x.data.ty, .slice p3 q3 r3, .slice p4 q4 r4, .slice p5 q5 r5, .slice p6 q6 r6]] : List (List Value)), ∀ u ∈ cs, u.oneCell' = true by
       intro cs hc u hu; rw [List.mem_singleton] at hc; subst hc; exact HX0.out.one u hu)
      have hbd : Below W2.heap.size W2 W2.drew := ⟨rfl, rfl, rfl, qN0, fun _ _ => rfl⟩
      have hbA : Below W2.heap.size W2 (W2.alloc (.cells #[] 89)).drew := hbd.alloc (qN0) _
      have hbB : Below W2.heap.size W2 ((W2.alloc (.cells #[] 89)).alloc (.cells #[.slice p0 q0 r0, .int .u32 (x.ttl : Int), .int .i64 x.data.ty, .slice p3 q3 r3, .slice p4 q4 r4, .slice p5 q5 r5, .slice p6 q6 r6] 89)).drew := hbA.alloc (by simp) _
      have hbC : Below W2.heap.size W2 ((W2.alloc (.cells #[.slice p0 q0 r0, .int .u32 (x.ttl : Int), .int .i64 x.data.ty, .slice p3 q3 r3, .slice p4 q4 r4, .slice p5 q5 r5, .slice p6 q6 r6] 89)).alloc (.cells #[] 89)).drew := (hbd.alloc (qN0) _).alloc (by simp) _
      have HBA := qH0 hbA; have HBB := qH0 hbB; have HBC := qH0 hbC
      have HOA := qH0 (show OwnC 7 89 ((W2.alloc (.cells #[] 89)).drew) W2.heap.size (.slice (some ⟨W2.heap.size, 0, none⟩) 0 0) [] from qau 7 89 W2.drew)
      have HOB := qH0 (show OwnC 7 89 (((W2.alloc (.cells #[] 89)).alloc (.cells #[.slice p0 q0 r0, .int .u32 (x.ttl : Int), .int .i64 x.data.ty, .slice p3 q3 r3, .slice p4 q4 r4, .slice p5 q5 r5, .slice p6 q6 r6] 89)).drew) W2.heap.size (.slice (some ⟨W2.heap.size, 0, none⟩) 0 0) [] from OwnK.alloc (qau 7 89 W2.drew) _)
      have hoC := qau 7 89 (W2.drew.alloc (.cells #[.slice p0 q0 r0, .int .u32 (x.ttl : Int), .int .i64 x.data.ty, .slice p3 q3 r3, .slice p4 q4 r4, .slice p5 q5 r5, .slice p6 q6 r6] 89))
      rw [World.size_alloc] at hoC
      have HOC := qH0 (show OwnC 7 89 (((W2.alloc (.cells #[.slice p0 q0 r0, .int .u32 (x.ttl : Int), .int .i64 x.data.ty, .slice p3 q3 r3, .slice p4 q4 r4, .slice p5 q5 r5, .slice p6 q6 r6] 89)).alloc (.cells #[] 89)).drew) W2.heap.size (.slice (some ⟨W2.heap.size + 1, 0, none⟩) 0 0) [] from OwnK.weaken hoC (by show W2.heap.size ≤ W2.heap.size + 1; omega))
      have hkB := knew (W2.drew.alloc (.cells #[] 89)) (.cells #[.slice p0 q0 r0, .int .u32 (x.ttl : Int), .int .i64 x.data.ty, .slice p3 q3 r3, .slice p4 q4 r4, .slice p5 q5 r5, .slice p6 q6 r6] 89)
      rw [World.size_alloc] at hkB
      have HKB := qH0 (show ((W2.alloc (.cells #[] 89)).alloc (.cells #[.slice p0 q0 r0, .int .u32 (x.ttl : Int), .int .i64 x.data.ty, .slice p3 q3 r3, .slice p4 q4 r4, .slice p5 q5 r5, .slice p6 q6 r6] 89)).drew.heap[W2.heap.size + 1]? = some (.cells #[.slice p0 q0 r0, .int .u32 (x.ttl : Int), .int .i64 x.data.ty, .slice p3 q3 r3, .slice p4 q4 r4, .slice p5 q5 r5, .slice p6 q6 r6] 89) from hkB)
      have HKC := qH0 (show ((W2.alloc (.cells #[.slice p0 q0 r0, .int .u32 (x.ttl : Int), .int .i64 x.data.ty, .slice p3 q3 r3, .slice p4 q4 r4, .slice p5 q5 r5, .slice p6 q6 r6] 89)).alloc (.cells #[] 89)).drew.heap[W2.heap.size]? = some (.cells #[.slice p0 q0 r0, .int .u32 (x.ttl : Int), .int .i64 x.data.ty, .slice p3 q3 r3, .slice p4 q4 r4, .slice p5 q5 r5, .slice p6 q6 r6] 89) from (Below.heap_alloc (W2.drew.alloc (.cells #[.slice p0 q0 r0, .int .u32 (x.ttl : Int), .int .i64 x.data.ty, .slice p3 q3 r3, .slice p4 q4 r4, .slice p5 q5 r5, .slice p6 q6 r6] 89)) (.cells #[] 89) W2.heap.size (by simp)).trans (knew W2.drew (.cells #[.slice p0 q0 r0, .int .u32 (x.ttl : Int), .int .i64 x.data.ty, .slice p3 q3 r3, .slice p4 q4 r4, .slice p5 q5 r5, .slice p6 q6 r6] 89)))
      obtain ⟨c0, c1, c2, c3, c4, c5, c6⟩ := HE.out W2.drew (HB3.out.trans (hbd.mono hsz))
      obtain ⟨d0, d1, d2, d3, d4, d5, d6⟩ := HE.out ((W2.alloc (.cells #[] 89)).drew) (HB3.out.trans (hbA.mono hsz))
      have hk0 : (0 : Int) ≤ (k : Int) := by omega
      have hkm1 : (k : Int) ≤ (m : Int) := by omega
      have hkc1 : (k : Int) ≤ (gc : Int) := by omega
      have hmc1 : (m : Int) ≤ (gc : Int) := by omega
      have HNK := qH0 (show k ≤ 1000000 ∧ m ≤ 1000000 by omega)
      have H4A := qH0 (qah ((W2.alloc (.cells #[] 89)).drew) (.tmp 66) (.tmp 69) qao (by decide) W2.heap.size (.slice (some ⟨W2.heap.size, 0, none⟩) 0 0) [] HOA.out (.slice (some ⟨g, 0, none⟩) k gc) (csd.take k) (HTA.out.below HBA.out) HCK.out HC1.out HBA.out.size (by have := HNK.out; rw [HLK.out]; unfold maxLen; simp <;> omega) (by have := HNK.out; rw [HLK.out]; simp <;> omega))
      have H4B := qH0 (qah (((W2.alloc (.cells #[] 89)).alloc (.cells #[.slice p0 q0 r0, .int .u32 (x.ttl : Int), .int .i64 x.data.ty, .slice p3 q3 r3, .slice p4 q4 r4, .slice p5 q5 r5, .slice p6 q6 r6] 89)).drew) (.tmp 66) (.tmp 69) qao (by decide) W2.heap.size (.slice (some ⟨W2.heap.size, 0, none⟩) 0 0) [] HOB.out (.slice (some ⟨g, 0, none⟩) k gc) (csd.take k) (HTA.out.below HBB.out) HCK.out HC1.out HBB.out.size (by have := HNK.out; rw [HLK.out]; unfold maxLen; simp <;> omega) (by have := HNK.out; rw [HLK.out]; simp <;> omega))
      have H4C := qH0 (qah (((W2.alloc (.cells #[.slice p0 q0 r0, .int .u32 (x.ttl : Int), .int .i64 x.data.ty, .slice p3 q3 r3, .slice p4 q4 r4, .slice p5 q5 r5, .slice p6 q6 r6] 89)).alloc (.cells #[] 89)).drew) (.tmp 66) (.tmp 69) qao (by decide) W2.heap.size (.slice (some ⟨W2.heap.size + 1, 0, none⟩) 0 0) [] HOC.out (.slice (some ⟨g, 0, none⟩) k gc) (csd.take k) (HTA.out.below HBC.out) HCK.out HC1.out HBC.out.size (by have := HNK.out; rw [HLK.out]; unfold maxLen; simp <;> omega) (by have := HNK.out; rw [HLK.out]; simp <;> omega))
      clear hsl3 hbd hbA hbB hbC hoC hkB
      go_wp2_with fail
      go_region_law (first
       | ((with_reducible refine H4A.out _ _ _ _ _ _ ?_ ?_ ?_ ?_ ?_); exact rfl; exact rfl; exact rfl; exact rfl; intro v4 w4 ho4 hg4; rw [List.nil_append] at ho4; have HO4 := qH0 ho4; have HB4 := qH0 (HBA.out.grown hg4 HBA.out.size (OwnK.base_le HOA.out)); have H10 := qH0 (qah (w4.alloc (.cells #[.slice p0 q0 r0, .int .u32 (x.ttl : Int), .int .i64 x.data.ty, .slice p3 q3 r3, .slice p4 q4 r4, .slice p5 q5 r5, .slice p6 q6 r6] 89)) (.tmp 70) (.tmp 75) qao (by decide) W2.heap.size v4 (csd.take k) (OwnK.alloc HO4.out _) (.slice (some ⟨w4.heap.size, 0, none⟩) 1 1) [[.slice p0 q0 r0, .int .u32 (x.ttl : Int), .int .i64 x.data.ty, .slice p3 q3 r3, .slice p4 q4 r4, .slice p5 q5 r5, .slice p6 q6 r6]] (qay (css := [[.slice p0 q0 r0, .int .u32 (x.ttl : Int), .int .i64 x.data.ty, .slice p3 q3 r3, .slice p4 q4 r4, .slice p5 q5 r5, .slice p6 q6 r6]]) (knew w4 _)) HX7.out HX1.out (by have := HB4.out.size; simp <;> omega) (by have := HNK.out; rw [HLK.out]; unfold maxLen; simp <;> omega) (by have := HNK.out; rw [HLK.out]; simp <;> omega)); have H10B := qH0 (fun (w5 : World) (hg : World.grownBy (w4.alloc (.cells #[.slice p0 q0 r0, .int .u32 (x.ttl : Int), .int .i64 x.data.ty, .slice p3 q3 r3, .slice p4 q4 r4, .slice p5 q5 r5, .slice p6 q6 r6] 89)) w5 v4.ownBlock) => ((HB4.out.alloc HB4.out.size _).grown hg (by have := HB4.out.size; simp <;> omega) (OwnK.base_le HO4.out))); obtain ⟨e0, e1, e2, e3, e4, e5, e6⟩ := HE.out w4 (HB3.out.trans (HB4.out.mono HSZ.out)); clear ho4 hg4)
       | ((with_reducible refine H4B.out _ _ _ _ _ _ ?_ ?_ ?_ ?_ ?_); exact rfl; exact rfl; exact rfl; exact rfl; intro v4 w4 ho4 hg4; rw [List.nil_append] at ho4; have HO4 := qH0 ho4; have HB4 := qH0 (HBB.out.grown hg4 HBB.out.size (OwnK.base_le HOB.out)); have HBX := qH0 ((hg4.block (W2.heap.size + 1) (qaa HKB.out) (by simp [Value.ownBlock])).trans HKB.out); have H10 := qH0 (qah (w4) (.tmp 70) (.tmp 75) qao (by decide) W2.heap.size v4 (csd.take k) (HO4.out) (.slice (some ⟨W2.heap.size + 1, 0, none⟩) 1 1) [[.slice p0 q0 r0, .int .u32 (x.ttl : Int), .int .i64 x.data.ty, .slice p3 q3 r3, .slice p4 q4 r4, .slice p5 q5 r5, .slice p6 q6 r6]] (qay (css := [[.slice p0 q0 r0, .int .u32 (x.ttl : Int), .int .i64 x.data.ty, .slice p3 q3 r3, .slice p4 q4 r4, .slice p5 q5 r5, .slice p6 q6 r6]]) HBX.out) HX7.out HX1.out (HB4.out.size) (by have := HNK.out; rw [HLK.out]; unfold maxLen; simp <;> omega) (by have := HNK.out; rw [HLK.out]; simp <;> omega)); have H10B := qH0 (fun (w5 : World) (hg : World.grownBy (w4) w5 v4.ownBlock) => (HB4.out.grown hg HB4.out.size (OwnK.base_le HO4.out))); clear ho4 hg4)
       | ((with_reducible refine H4C.out _ _ _ _ _ _ ?_ ?_ ?_ ?_ ?_); exact rfl; exact rfl; exact rfl; exact rfl; intro v4 w4 ho4 hg4; rw [List.nil_append] at ho4; have HO4 := qH0 ho4; have HB4 := qH0 (HBC.out.grown hg4 HBC.out.size (OwnK.base_le HOC.out)); have HBX := qH0 ((hg4.block W2.heap.size (qaa HKC.out) (by simp [Value.ownBlock])).trans HKC.out); have H10 := qH0 (qah (w4) (.tmp 70) (.tmp 75) qao (by decide) W2.heap.size v4 (csd.take k) (HO4.out) (.slice (some ⟨W2.heap.size, 0, none⟩) 1 1) [[.slice p0 q0 r0, .int .u32 (x.ttl : Int), .int .i64 x.data.ty, .slice p3 q3 r3, .slice p4 q4 r4, .slice p5 q5 r5, .slice p6 q6 r6]] (qay (css := [[.slice p0 q0 r0, .int .u32 (x.ttl : Int), .int .i64 x.data.ty, .slice p3 q3 r3, .slice p4 q4 r4, .slice p5 q5 r5, .slice p6 q6 r6]]) HBX.out) HX7.out HX1.out (HB4.out.size) (by have := HNK.out; rw [HLK.out]; unfold maxLen; simp <;> omega) (by have := HNK.out; rw [HLK.out]; simp <;> omega)); have H10B := qH0 (fun (w5 : World) (hg : World.grownBy (w4) w5 v4.ownBlock) => (HB4.out.grown hg HB4.out.size (OwnK.base_le HO4.out))); clear ho4 hg4)
       | ((with_reducible refine H10.out _ _ _ _ _ _ ?_ ?_ ?_ ?_ ?_); exact rfl; exact rfl; exact rfl; exact rfl; intro v5 w5 ho5 hg5; have HO5 := qH0 ho5; have HB5 := qH0 (H10B.out w5 hg5); clear ho5 hg5))
      all_goals
       obtain ⟨a5, z5, e5⟩ := OwnK.shape HO5.out
       rw [List.length_append, HLK.out] at e5
       simp only [List.length_cons, List.length_nil, Nat.zero_add] at e5
       subst e5
       clear c0 c1 c2 c3 c4 c5 c6 d0 d1 d2 d3 d4 d5 d6
       by_cases hgk : gc = k
       ·subst hgk
        have hdz : csd.drop gc = [] := List.eq_nil_of_length_eq_zero (by rw [HLD.out]; omega)
        have HTE := qH0 (show SlK W2 (.slice (some ⟨g, 0, none⟩) 0 0) (csd.drop gc) by rw [hdz]; exact ⟨_, _, rfl, qN0, (fun e => by cases e), .inl rfl⟩)
        clear hdz
        go_wp2_with (at_builtin; refine qar w5 rfl (.tmp 77) (.tmp 80) qao (by decide) rfl W2.heap.size (.slice a5 _ z5) _ rfl HO5.out (.slice (some ⟨g, 0, none⟩) 0 0) (csd.drop gc) rfl (HTE.out.below HB5.out) HDK.out HD1.out HB5.out.size (by have := HNK.out; rw [List.length_append, HLK.out, HLD.out]; unfold maxLen; simp <;> omega) (by have := HNK.out; rw [List.length_append, HLK.out, HLD.out]; simp <;> omega) ?_; intro v6 w6 ho6 hg6)
        have HO6 := qH0 ho6
        have HB6 := qH0 (HB5.out.grown hg6 HB5.out.size (OwnK.base_le HO5.out))
        clear ho6 hg6
        obtain ⟨a6, c6, e6⟩ := OwnK.shape HO6.out
        have hl6 : (csd.take gc ++ ([[.slice p0 q0 r0, .int .u32 (x.ttl : Int), .int .i64 x.data.ty, .slice p3 q3 r3, .slice p4 q4 r4, .slice p5 q5 r5, .slice p6 q6 r6]] : List (List Value)) ++ csd.drop gc).length = m + 1 := by rw [List.length_append, List.length_append, HLK.out, HLD.out]; simp <;> omega
        rw [hl6] at e6
        subst e6
        go_roundg (n - (i + 1))
        case measure => omega
        case rel => exact ⟨i + 1, a6, m + 1, c6, _, _, rfl, by go_num, by omega, by omega, by omega, qH0 ⟨hl6, by rw [HST.out, HGAP.out]⟩, qH0 (OwnK.weaken HO6.out HSZ.out), qH0 (HRC.out.gap gc HX0.out), qH0 (HB3.out.trans (HB6.out.mono HSZ.out))⟩
       ·have hgk2 : (k : Int) < (gc : Int) := by omega
        go_wp2_with (at_builtin; refine qar w5 rfl (.tmp 77) (.tmp 80) qao (by decide) rfl W2.heap.size (.slice a5 _ z5) _ rfl HO5.out (.slice (some ⟨g, k * 7, none⟩) (m - k) (gc - k)) (csd.drop k) rfl (HTD.out.below HB5.out) HDK.out HD1.out HB5.out.size (by have := HNK.out; rw [List.length_append, HLK.out, HLD.out]; unfold maxLen; simp <;> omega) (by have := HNK.out; rw [List.length_append, HLK.out, HLD.out]; simp <;> omega) ?_; intro v6 w6 ho6 hg6)
        have HO6 := qH0 ho6
        have HB6 := qH0 (HB5.out.grown hg6 HB5.out.size (OwnK.base_le HO5.out))
        clear ho6 hg6
        obtain ⟨a6, c6, e6⟩ := OwnK.shape HO6.out
        have hl6 : (csd.take k ++ ([[.slice p0 q0 r0, .int .u32 (x.ttl : Int), .int .i64 x.data.ty, .slice p3 q3 r3, .slice p4 q4 r4, .slice p5 q5 r5, .slice p6 q6 r6]] : List (List Value)) ++ csd.drop k).length = m + 1 := by rw [List.length_append, List.length_append, HLK.out, HLD.out]; simp <;> omega
        rw [hl6] at e6
        subst e6
        go_roundg (n - (i + 1))
        case measure => omega
        case rel => exact ⟨i + 1, a6, m + 1, c6, _, _, rfl, by go_num, by omega, by omega, by omega, qH0 ⟨hl6, by rw [HST.out, HGAP.out]⟩, qH0 (OwnK.weaken HO6.out HSZ.out), qH0 (HRC.out.gap k HX0.out), qH0 (HB3.out.trans (HB6.out.mono HSZ.out))⟩
  ·obtain rfl : i = n := by omega
   go_wp2
   go_ret
   have h := HRC.out
   rw [HL.out.2, List.take_of_length_le (by have := HLL.out; omega)] at h
   exact ⟨_, csd, rfl, HO.out, h, HB.out⟩
theorem qdt : ElemK 4 80 77 64 := ⟨Tryz.underlying77, _, _, rfl, rfl, rfl, rfl, rfl⟩
theorem qdI (c : List Rc) (x : Rc) : qam (c ++ [x]) = stepS (qam c) x := by
 unfold qam
 rw [List.foldl_append]; rfl
theorem qhC (c : List Rc) : ∀ s ∈ qam c, ∃ r ∈ c, s.owner = r.owner :=
 qaV (P := fun c => ∀ s ∈ qam c, ∃ r ∈ c, s.owner = r.owner) (fun s h => by simp [qam] at h) (fun c x ih s h => by
  rw [qdI] at h
  rcases List.eq_nil_or_concat (qam c) with e | ⟨pre, t, e⟩
  ·rw [e] at h
   simp only [stepS, List.getLast?_nil, List.nil_append, List.mem_singleton] at h
   exact ⟨x, by simp, by rw [h]; rfl⟩
  ·rw [e, List.concat_eq_append, qbJ] at h
   have ht : ∃ r ∈ c ++ [x], t.owner = r.owner := by
    obtain ⟨r, h1, h2⟩ := ih t (by rw [e]; simp)
    exact ⟨r, by simp [h1], h2⟩
   have hp : ∀ s ∈ pre, ∃ r ∈ c ++ [x], s.owner = r.owner := fun s hs => by
    obtain ⟨r, h1, h2⟩ := ih s (by rw [e]; simp [hs])
    exact ⟨r, by simp [h1], h2⟩
   split at h
   ·rcases List.mem_append.1 h with h | h
    ·exact hp s h
    ·rw [List.mem_singleton] at h; rw [h]; exact ht
   ·rcases List.mem_append.1 h with h | h
    ·rcases List.mem_append.1 h with h | h
     ·exact hp s h
     ·rw [List.mem_singleton] at h; rw [h]; exact ht
    ·rw [List.mem_singleton] at h
     exact ⟨x, by simp, by rw [h]; rfl⟩) c
theorem OwnC.putK {K : Nat} {T : TypeId} {W : World} {base g n c : Nat} {css : List (List Value)} (h : OwnC K T W base (.slice (some ⟨g, 0, none⟩) n c) css) (hk : ∀ cs ∈ css, cs.length = K) (k : Nat) (hlt : k < css.length) (t : Nat) (ht : t < K) (u : Value) :
 OwnC K T (W.setCell ⟨g, k * K + t, none⟩ u) base (.slice (some ⟨g, 0, none⟩) n c) (css.set k (css[k].set t u)) := by
 obtain ⟨hl, h⟩ := h
 rcases h with ⟨e, _⟩ | ⟨g', cap, cur, e, hb, hg, hc, hm, hsz, htk⟩
 ·cases e
 ·cases e
  have hfl : ((css.set k (css[k].set t u)).flatMap fun cs => cs) = (css.flatMap fun cs => cs).set (k * K + t) u := by
   rw [qbG, qbG, qcC K t u ht css hk k hlt]
  refine ⟨by rw [hfl, List.length_set, List.length_set]; exact hl, .inr ⟨g, c, cur.setIfInBounds (k * K + t) u, by rw [List.length_set], hb, kset hg _ u, by rw [List.length_set]; exact hc, hm, by simpa using hsz, ?_⟩⟩
  rw [hfl, List.length_set, ← htk, Array.toList_setIfInBounds]
  rw [List.take_set]
theorem OwnC.someK {K : Nat} {T : TypeId} {W : World} {base n c : Nat} {ga : Option Addr} {css : List (List Value)} (h : OwnC K T W base (.slice ga n c) css) (h0 : 0 < css.length) : ∃ g cur, ga = some ⟨g, 0, none⟩ ∧ base ≤ g ∧ W.heap[g]? = some (.cells cur T) ∧ n ≤ c := by
 obtain ⟨hl, h⟩ := h
 rcases h with ⟨e, e2⟩ | ⟨g', cap, cur, e, hb, hg, hc, hm, hsz, htk⟩
 ·cases e; omega
 ·cases e; exact ⟨g', cur, rfl, hb, hg, hc⟩
theorem qfq {K : Nat} {T : TypeId} (W : World) {cs : List Value} (hl : cs.length = K) : OwnC K T (W.alloc (.cells cs.toArray T)) W.heap.size (.slice (some ⟨W.heap.size, 0, none⟩) 1 1) [cs] :=
 ⟨by simp [hl], .inr ⟨W.heap.size, 1, cs.toArray, rfl, qN0, heap_alloc_new W _, qN0, by unfold maxLen; omega, by simp [hl], by subst hl; simp⟩⟩
theorem Dts.snoc {W : World} {ds : List (List Value)} {l : List Dat} {cs : List Value} {d : Dat} (h : Dts W ds l) (hl : cs.length = 5) (hd : DatAt W (.agg cs.toArray) d) : Dts W (ds ++ [cs]) (l ++ [d]) := by
 refine ⟨by simp [h.1], fun j a b => ?_⟩
 by_cases hj : j < ds.length
 ·rw [List.getElem_append_left hj, List.getElem_append_left (by have := h.1; omega)]
  exact h.2 j hj (by have := h.1; omega)
 ·obtain rfl : j = ds.length := by simp at a; omega
  have e1 : (ds ++ [cs])[ds.length]'a = cs := by simp
  have e2 : (l ++ [d])[ds.length]'b = d := by simp [h.1]
  rw [e1, e2]
  exact ⟨hl, hd⟩
theorem Dts.nil (W : World) : Dts W [] [] := ⟨rfl, fun j h => absurd h (by simp)⟩
def RSet (w0 W : World) (base : Nat) (cs : List Value) (s : St) : Prop := ∃ (x0 x3 : Option Addr × Nat × Nat) (ds : List (List Value)), cs = [slW x0, .int .i64 s.ty, .int .u32 (s.ttl : Int), slW x3] ∧ NmAt w0 (slW x0) s.owner ∧ OwnC 5 87 W base (slW x3) ds ∧ Dts w0 ds s.data
theorem RSet.below {w0 W W' : World} {base : Nat} {cs : List Value} {s : St} (h : RSet w0 W base cs s) (hb : Below W.heap.size W W') : RSet w0 W' base cs s := by
 obtain ⟨x0, x3, ds, e, h1, h2, h3⟩ := h
 exact ⟨x0, x3, ds, e, h1, OwnK.below h2 hb, h3⟩
theorem RSet.grown {w0 W W' : World} {base base' : Nat} {cs : List Value} {s : St} {v' : Value} {yss : List (List Value)} (h : RSet w0 W base cs s) (h' : OwnC 4 80 W base' v' yss) (hg : W.grownBy W' v'.ownBlock) : RSet w0 W' base cs s := by
 obtain ⟨x0, x3, ds, e, h1, h2, h3⟩ := h
 exact ⟨x0, x3, ds, e, h1, OwnK.kept_cc h2 h' (by decide) hg, h3⟩
theorem RSet.put {w0 W : World} {base : Nat} {cs : List Value} {s : St} (h : RSet w0 W base cs s) {B : Nat} {xs : Array Value} (hB : W.heap[B]? = some (.cells xs 80)) (j : Nat) (u : Value) : RSet w0 (W.setCell ⟨B, j, none⟩ u) base cs s := by
 obtain ⟨x0, x3, ds, e, h1, h2, h3⟩ := h
 exact ⟨x0, x3, ds, e, h1, OwnK.keptB h2 hB (by decide) j u, h3⟩
def RSets (w0 W : World) (base : Nat) (css : List (List Value)) (l : List St) : Prop := css.length = l.length ∧ ∀ j (h1 : j < css.length) (h2 : j < l.length), RSet w0 W base css[j] l[j]
theorem RSets.nil (w0 W : World) (base : Nat) : RSets w0 W base [] [] := ⟨rfl, fun j h => absurd h (by simp)⟩
theorem RSets.below {w0 W W' : World} {base : Nat} {css : List (List Value)} {l : List St} (h : RSets w0 W base css l) (hb : Below W.heap.size W W') : RSets w0 W' base css l := ⟨h.1, fun j a b => (h.2 j a b).below hb⟩
theorem RSets.grown {w0 W W' : World} {base base' : Nat} {css : List (List Value)} {l : List St} {v' : Value} {yss : List (List Value)} (h : RSets w0 W base css l) (h' : OwnC 4 80 W base' v' yss) (hg : W.grownBy W' v'.ownBlock) : RSets w0 W' base css l := ⟨h.1, fun j a b => (h.2 j a b).grown h' hg⟩
theorem RSets.put {w0 W : World} {base : Nat} {css : List (List Value)} {l : List St} (h : RSets w0 W base css l) {B : Nat} {xs : Array Value} (hB : W.heap[B]? = some (.cells xs 80)) (j : Nat) (u : Value) : RSets w0 (W.setCell ⟨B, j, none⟩ u) base css l := ⟨h.1, fun i a b => (h.2 i a b).put hB j u⟩
theorem RSets.len4 {w0 W : World} {base : Nat} {css : List (List Value)} {l : List St} (h : RSets w0 W base css l) : ∀ cs ∈ css, cs.length = 4 := fun cs hc => by
 obtain ⟨i, hi, rfl⟩ := List.mem_iff_getElem.1 hc
 obtain ⟨_, _, _, e, _⟩ := h.2 i hi (by have := h.1; omega)
 rw [e]; rfl
theorem RSets.snoc {w0 W : World} {base : Nat} {css : List (List Value)} {l : List St} {cs : List Value} {s : St} (h : RSets w0 W base css l) (hs : RSet w0 W base cs s) : RSets w0 W base (css ++ [cs]) (l ++ [s]) := by
 refine ⟨by simp [h.1], fun j a b => ?_⟩
 by_cases hj : j < css.length
 ·rw [List.getElem_append_left hj, List.getElem_append_left (by have := h.1; omega)]
  exact h.2 j hj (by have := h.1; omega)
 ·obtain rfl : j = css.length := by simp at a; omega
  have e1 : (css ++ [cs])[css.length]'a = cs := by simp
  have e2 : (l ++ [s])[css.length]'b = s := by simp [h.1]
  rw [e1, e2]; exact hs
theorem RSets.set {w0 W : World} {base : Nat} {css : List (List Value)} {l : List St} (h : RSets w0 W base css l) (k : Nat) {cs : List Value} {s : St} (hs : RSet w0 W base cs s) : RSets w0 W base (css.set k cs) (l.set k s) := by
 refine ⟨by simp [h.1], fun j a b => ?_⟩
 rw [List.length_set] at a b
 rw [List.getElem_set, List.getElem_set]
 by_cases hj : k = j
 ·rw [if_pos hj, if_pos hj]; exact hs
 ·rw [if_neg hj, if_neg hj]; exact h.2 j a b
theorem qfx {α : Type} (pre : List α) (s t : α) : (pre ++ [s]).set pre.length t = pre ++ [t] := by
 rw [List.set_append_right _ _ (qN0)]; simp
theorem one4 {a b c d : Value} (ha : a.oneCell' = true) (hb : b.oneCell' = true) (hc : c.oneCell' = true) (hd : d.oneCell' = true) : ∀ cs ∈ [[a, b, c, d]], ∀ u ∈ cs, u.oneCell' = true := by
 intro cs hcs u hu
 rw [List.mem_singleton] at hcs; subst hcs
 simp only [List.mem_cons, List.not_mem_nil, or_false] at hu
 rcases hu with rfl | rfl | rfl | rfl <;> assumption
theorem one5 {a b c d e : Value} (ha : a.oneCell' = true) (hb : b.oneCell' = true) (hc : c.oneCell' = true) (hd : d.oneCell' = true) (he : e.oneCell' = true) : ∀ cs ∈ [[a, b, c, d, e]], ∀ u ∈ cs, u.oneCell' = true := by
 intro cs hcs u hu
 rw [List.mem_singleton] at hcs; subst hcs
 simp only [List.mem_cons, List.not_mem_nil, or_false] at hu
 rcases hu with rfl | rfl | rfl | rfl | rfl <;> assumption
theorem lenS (a b c d : Value) : ∀ cs ∈ [[a, b, c, d]], cs.length = 4 := by
 intro cs hcs; rw [List.mem_singleton] at hcs; subst hcs; rfl
theorem lenD (a b c d e : Value) : ∀ cs ∈ [[a, b, c, d, e]], cs.length = 5 := by
 intro cs hcs; rw [List.mem_singleton] at hcs; subst hcs; rfl
theorem qfp {W : World} {ds : List (List Value)} {l : List Dat} (h : Dts W ds l) : ∀ cs ∈ ds, ∀ u ∈ cs, u.oneCell' = true := by
 intro cs hc u hu
 obtain ⟨i, hi, rfl⟩ := List.mem_iff_getElem.1 hc
 obtain ⟨x3, x4, x5, x6, e⟩ := qkO (h.2 i hi (by have := h.1; omega)).2
 rw [e] at hu
 simp only [List.mem_cons, List.not_mem_nil, or_false] at hu
 rcases hu with rfl | rfl | rfl | rfl | rfl <;> rfl
theorem qcK {W : World} {ds : List (List Value)} {l : List Dat} (h : Dts W ds l) : ∀ cs ∈ ds, cs.length = 5 := by
 intro cs hc
 obtain ⟨i, hi, rfl⟩ := List.mem_iff_getElem.1 hc
 exact (h.2 i hi (by have := h.1; omega)).1
theorem RSets.move {w0 W W' : World} {base : Nat} {css : List (List Value)} {l : List St} (h : RSets w0 W base css l) (hf : FarKeep base W W') : RSets w0 W' base css l := ⟨h.1, fun j a b => by
 obtain ⟨x0, x3, ds, e, h1, h2, h3⟩ := h.2 j a b
 exact ⟨x0, x3, ds, e, h1, OwnK.move h2 hf, h3⟩⟩
def RSetP (w0 W : World) (cs : List Value) (s : St) : Prop := ∃ (x0 x3 : Option Addr × Nat × Nat) (ds : List (List Value)), cs = [slW x0, .int .i64 s.ty, .int .u32 (s.ttl : Int), slW x3] ∧ NmAt w0 (slW x0) s.owner ∧ SlK W (slW x3) ds ∧ Dts w0 ds s.data
theorem RSetP.setR {w0 W : World} {cs : List Value} {s : St} (h : RSetP w0 W cs s) (hb : Below w0.heap.size w0 W) : SetR W cs s := by
 obtain ⟨x0, x3, ds, e, h1, h2, h3⟩ := h
 have h4 := h3.below hb
 exact ⟨x0, x3, ds, e, h1.below hb, h2, h4.1, h4.2⟩
theorem RSets.rowP {w0 W : World} {base n c : Nat} {a : Option Addr} {css : List (List Value)} {l : List St} (ho : OwnC 4 80 W base (.slice a n c) css) (h : RSets w0 W base css l) : SlK W (.slice a n c) css ∧ ∀ j (h1 : j < css.length) (h2 : j < l.length), RSetP w0 W css[j] l[j] := by
 refine ⟨SlK.of_own ho h.len4, fun j h1 h2 => ?_⟩
 obtain ⟨x0, x3, ds, e, k1, k2, k3⟩ := h.2 j h1 h2
 exact ⟨x0, x3, ds, e, k1, SlK.of_own k2 (qcK k3), k3⟩
def qdx (w0 w : World) (l : List St) (e : Ending) (w' : World) : Prop := ∃ v css, e = .returned v ∧ css.length = l.length ∧ (∀ W', FarKeep w.heap.size w' W' → SlK W' v css ∧ ∀ j (h1 : j < css.length) (h2 : j < l.length), RSetP w0 W' css[j] l[j]) ∧ Below w.heap.size w w'
theorem qeo (w0 w : World) (v : Value) (cs0 : List (List Value)) (l : List Rc) (hA : SlK w v cs0) (hR : Rcs w0 cs0 l) (hb0 : Below w0.heap.size w0 w) (hOK : ∀ r ∈ l, RcOK r) (hl : cs0.length ≤ 1000000) :
 Calls Tryz.prog 28 #[v] w (qdx w0 w (setsM (canonM l))) := by
 have hc := qeK v cs0 l w0 w hA hR hb0 hOK hl
 have hokc := qf2 l hOK
 have hcl := qaD l
 have hll : l.length ≤ 1000000 := by rw [← hR.1]; exact hl
 obtain ⟨a, c, rfl, -⟩ := id hA
 obtain ⟨C, hC⟩ : ∃ C, canonM l = C := ⟨_, rfl⟩
 rw [hC] at hokc hcl ⊢
 obtain ⟨n0, hn0⟩ : ∃ k, cs0.length = k := ⟨_, rfl⟩
 rw [hn0] at hc ⊢
 have HC := qH0 hC; have HOKC := qH0 hokc; have HB00 := qH0 hb0
 have HCL := qH0 (show C.length ≤ 1000000 by omega)
 clear hA hR hb0 hOK hl hC hokc hcl hll hn0
 go_enter Tryz.func28, Tryz.ntmps28
 go_wp2_with fail
 refine hc.mono ?_
 rintro e w1 ⟨v1, csd, rfl, ho, hr, hb1⟩
 rw [HC.out] at hr
 obtain ⟨ca, cc, rfl⟩ := OwnK.shape ho
 obtain ⟨n, hn⟩ : ∃ n, csd.length = n := ⟨_, rfl⟩
 have hsl := SlK.of_own ho hr.ck
 rw [hn] at hsl ⊢
 have HC1 := qH0 hsl; have HR := qH0 hr; have HN := qH0 hn
 have HB1 := qH0 hb1
 have HW01 := qH0 (qB0 HB00.out hb1)
 have HLC := qH0 (show C.length = n by rw [← hn]; exact hr.1.symm)
 have hnx : n ≤ 1000000 := by have := HLC.out; have := HCL.out; omega
 clear hc ho hr hb1 hn hsl HC
 go_wp2
 go_loopg [3, 5, 6] n (fun g1 vo vi vn wr => ∃ (i m : Nat) (ga : Option Addr) (gc : Nat) (css : List (List Value)), vo = .slice ga m gc ∧ vi = .int .i64 i ∧ i ≤ n ∧ n - i ≤ g1 ∧ m ≤ i ∧ Hid (css.length = m) ∧ Hid (OwnC 4 80 wr w1.heap.size (.slice ga m gc) css) ∧ Hid (RSets w0 wr w1.heap.size css (qam (C.take i))) ∧ Hid (Below w1.heap.size w1 wr))
 case atStart => exact ⟨0, 0, none, 0, [], rfl, rfl, Nat.zero_le _, by omega, Nat.zero_le _, qH0 rfl, qH0 (OwnK.nil _ _), qH0 (RSets.nil _ _ _), qH0 (qL0)⟩
 case round =>
  obtain ⟨i, m, ga, gc, css, rfl, rfl, hi, hg1, hmi, HL, HO, HS, HB⟩ := hrel
  by_cases hlt : i < n
  ·have hltz : (i : Int) < (n : Int) := by omega
   have hi1 : i < csd.length := by have := HN.out; omega
   have hi2 : i < C.length := by have := HLC.out; omega
   obtain ⟨b, off, rfl, hb, hel⟩ := HC1.out.elem HR.out.ck (by omega)
   have h0 := HR.out.2 i hi1 hi2
   have hokx := HOKC.out _ (List.getElem_mem hi2)
   have hst : qam (C.take (i + 1)) = stepS (qam (C.take i)) (C[i]'hi2) := by rw [List.take_succ_eq_append_getElem hi2, qdI]
   obtain ⟨x, hx⟩ : ∃ r, C[i]'hi2 = r := ⟨_, rfl⟩
   rw [hx] at h0 hokx hst
   obtain ⟨⟨p0, q0, r0⟩, ⟨p3, q3, r3⟩, ⟨p4, q4, r4⟩, ⟨p5, q5, r5⟩, ⟨p6, q6, r6⟩, e0⟩ := h0.shape
   simp only at e0
   have HE := qH0 (fun W hb => hel i hi1 _ _ _ _ _ _ _ e0 W hb)
   rw [e0] at h0
   obtain ⟨vo, vn, vu, vt, vr, e1, hno, hda⟩ := h0
   simp only [List.cons.injEq, and_true, true_and] at e1
   obtain ⟨rfl, rfl, rfl, rfl, rfl⟩ := e1
   have HNO := qH0 hno; have HDA := qH0 hda
   have HOKX := qH0 hokx
   have HSL := qH0 (show (qam (C.take i)).length = m by rw [← HS.out.1]; exact HL.out)
   have HNK := qH0 (show m ≤ 1000000 by omega)
   have HX := qH0 (show x ∈ C by rw [← hx]; exact List.getElem_mem _)
   have hcl : Below wr.heap.size wr wr.drew := ⟨rfl, rfl, rfl, qN0, fun _ _ => rfl⟩
   have hne : Nonempty (WIn (fun W => Below wr.heap.size wr W)) := ⟨⟨_, hcl⟩⟩
   clear hno hda hokx hx e0 hel hi1 hi2 hb
   by_cases hm : m = 0
   ·have HST := qH0 (show qam (C.take (i + 1)) = qam (C.take i) ++ [newS x] by
     have e : qam (C.take i) = [] := List.eq_nil_of_length_eq_zero (by rw [HSL.out]; exact hm)
     rw [hst, e]; rfl)
    have hmk : (m : Int) - 1 = -1 := by omega
    have hmk2 : ((m : Int) - 1).bmod 18446744073709551616 = -1 := by rw [hmk]; rfl
    have g0 := hne; have g1 := hne
    clear hst hm
    go_wp2_with fail
    refine qad (fun W => Below wr.heap.size wr W) qae (by kernel_rfl) hcl ?_
    repeat (go_big_quiet_step (fail))
    refine wpQuiet_nil ?_
    rintro _ ⟨p, rfl⟩
    have HP := qH0 p.ok
    clear g0 g1
    have HO2 := qH0 (OwnK.below HO.out HP.out)
    have HS2 := qH0 (HS.out.below HP.out)
    have HB2 := qH0 (qB0 HB.out HP.out)
    generalize p.w = W2 at *
    have hbd : Below W2.heap.size W2 W2.drew := ⟨rfl, rfl, rfl, qN0, fun _ _ => rfl⟩
    have hbA : Below W2.heap.size W2 (W2.alloc (.cells #[.int .i64 x.data.ty, .slice p3 q3 r3, .slice p4 q4 r4, .slice p5 q5 r5, .slice p6 q6 r6] 87)).drew := hbd.alloc (qN0) _
    have hbB : Below W2.heap.size W2 ((W2.alloc (.cells #[.int .i64 x.data.ty, .slice p3 q3 r3, .slice p4 q4 r4, .slice p5 q5 r5, .slice p6 q6 r6] 87)).alloc (.cells #[.slice p0 q0 r0, .int .i64 x.data.ty, .int .u32 (x.ttl : Int), .slice (some ⟨W2.heap.size, 0, none⟩) 1 1] 80)).drew := hbA.alloc (by simp) _
    have hsz := HB2.out.size
    obtain ⟨c0, c1, c2, c3, c4, c5, c6⟩ := HE.out W2.drew (HB2.out.trans (hbd.mono hsz))
    obtain ⟨d0, d1, d2, d3, d4, d5, d6⟩ := HE.out ((W2.alloc (.cells #[.int .i64 x.data.ty, .slice p3 q3 r3, .slice p4 q4 r4, .slice p5 q5 r5, .slice p6 q6 r6] 87)).drew) (HB2.out.trans (hbA.mono hsz))
    have HOS := qH0 (OwnK.below HO2.out hbB)
    have HSS := qH0 (HS2.out.below hbB)
    have HWS := qH0 (HB2.out.trans (hbB.mono hsz))
    have hkB := knew (W2.drew.alloc (.cells #[.int .i64 x.data.ty, .slice p3 q3 r3, .slice p4 q4 r4, .slice p5 q5 r5, .slice p6 q6 r6] 87)) (.cells #[.slice p0 q0 r0, .int .i64 x.data.ty, .int .u32 (x.ttl : Int), .slice (some ⟨W2.heap.size, 0, none⟩) 1 1] 80)
    rw [World.size_alloc] at hkB
    have HKB := qH0 (show ((W2.alloc (.cells #[.int .i64 x.data.ty, .slice p3 q3 r3, .slice p4 q4 r4, .slice p5 q5 r5, .slice p6 q6 r6] 87)).alloc (.cells #[.slice p0 q0 r0, .int .i64 x.data.ty, .int .u32 (x.ttl : Int), .slice (some ⟨W2.heap.size, 0, none⟩) 1 1] 80)).drew.heap[W2.heap.size + 1]? = some (.cells #[.slice p0 q0 r0, .int .i64 x.data.ty, .int .u32 (x.ttl : Int), .slice (some ⟨W2.heap.size, 0, none⟩) 1 1] 80) from hkB)
    have ho1 : OwnC 5 87 (W2.drew.alloc (.cells #[.int .i64 x.data.ty, .slice p3 q3 r3, .slice p4 q4 r4, .slice p5 q5 r5, .slice p6 q6 r6] 87)) W2.heap.size (.slice (some ⟨W2.heap.size, 0, none⟩) 1 1) [[.int .i64 x.data.ty, .slice p3 q3 r3, .slice p4 q4 r4, .slice p5 q5 r5, .slice p6 q6 r6]] := qfq W2.drew (cs := [.int .i64 x.data.ty, .slice p3 q3 r3, .slice p4 q4 r4, .slice p5 q5 r5, .slice p6 q6 r6]) rfl
    have HO1 := qH0 (show OwnC 5 87 ((W2.alloc (.cells #[.int .i64 x.data.ty, .slice p3 q3 r3, .slice p4 q4 r4, .slice p5 q5 r5, .slice p6 q6 r6] 87)).alloc (.cells #[.slice p0 q0 r0, .int .i64 x.data.ty, .int .u32 (x.ttl : Int), .slice (some ⟨W2.heap.size, 0, none⟩) 1 1] 80)).drew w1.heap.size (.slice (some ⟨W2.heap.size, 0, none⟩) 1 1) [[.int .i64 x.data.ty, .slice p3 q3 r3, .slice p4 q4 r4, .slice p5 q5 r5, .slice p6 q6 r6]] from OwnK.weaken (OwnK.alloc ho1 _) hsz)
    have HN4 := qH0 (show RSet w0 ((W2.alloc (.cells #[.int .i64 x.data.ty, .slice p3 q3 r3, .slice p4 q4 r4, .slice p5 q5 r5, .slice p6 q6 r6] 87)).alloc (.cells #[.slice p0 q0 r0, .int .i64 x.data.ty, .int .u32 (x.ttl : Int), .slice (some ⟨W2.heap.size, 0, none⟩) 1 1] 80)).drew w1.heap.size [.slice p0 q0 r0, .int .i64 x.data.ty, .int .u32 (x.ttl : Int), .slice (some ⟨W2.heap.size, 0, none⟩) 1 1] (newS x) from ⟨(p0, q0, r0), (some ⟨W2.heap.size, 0, none⟩, 1, 1), [[.int .i64 x.data.ty, .slice p3 q3 r3, .slice p4 q4 r4, .slice p5 q5 r5, .slice p6 q6 r6]], rfl, HNO.out, HO1.out, (Dts.nil w0).snoc rfl HDA.out⟩)
    have H11 := qH0 (qah (((W2.alloc (.cells #[.int .i64 x.data.ty, .slice p3 q3 r3, .slice p4 q4 r4, .slice p5 q5 r5, .slice p6 q6 r6] 87)).alloc (.cells #[.slice p0 q0 r0, .int .i64 x.data.ty, .int .u32 (x.ttl : Int), .slice (some ⟨W2.heap.size, 0, none⟩) 1 1] 80)).drew) (.tmp 85) (.tmp 109) qdt (by decide) w1.heap.size (.slice ga m gc) (css) (HOS.out) (.slice (some ⟨W2.heap.size + 1, 0, none⟩) 1 1) ([[.slice p0 q0 r0, .int .i64 x.data.ty, .int .u32 (x.ttl : Int), .slice (some ⟨W2.heap.size, 0, none⟩) 1 1]]) (qay (css := [[.slice p0 q0 r0, .int .i64 x.data.ty, .int .u32 (x.ttl : Int), .slice (some ⟨W2.heap.size, 0, none⟩) 1 1]]) HKB.out) (lenS _ _ _ _) (one4 rfl rfl rfl rfl) (HWS.out.size) (by have := HL.out; have := HNK.out; unfold maxLen; simp only [List.length_cons, List.length_nil]; omega) (by have := HL.out; have := HNK.out; simp only [List.length_cons, List.length_nil]; omega))
    clear hbd hbA hbB hkB ho1 hsz c0 c1 c2 c3 c4 c5 c6 d0 d1 d2 d3 d4 d5 d6
    have KC := qH0 (fun W (hb : Below w1.heap.size w1 W) => (show (W.cell? ⟨b, off + i * 7, none⟩ = some (.slice p0 q0 r0) ∧ W.cell? ⟨b, off + i * 7 + 1, none⟩ = some (.int .u32 (x.ttl : Int)) ∧ W.cell? ⟨b, off + i * 7 + 2, none⟩ = some (.int .i64 x.data.ty) ∧ W.cell? ⟨b, off + i * 7 + 3, none⟩ = some (.slice p3 q3 r3) ∧ W.cell? ⟨b, off + i * 7 + 4, none⟩ = some (.slice p4 q4 r4) ∧ W.cell? ⟨b, off + i * 7 + 5, none⟩ = some (.slice p5 q5 r5) ∧ W.cell? ⟨b, off + i * 7 + 6, none⟩ = some (.slice p6 q6 r6) ∧ Below w1.heap.size w1 W) from by
     obtain ⟨k0, k1, k2, k3, k4, k5, k6⟩ := HE.out W hb
     exact ⟨k0, k1, k2, k3, k4, k5, k6, hb⟩))
    have KR := qH0 (fun W (h : (W.cell? ⟨b, off + i * 7, none⟩ = some (.slice p0 q0 r0) ∧ W.cell? ⟨b, off + i * 7 + 1, none⟩ = some (.int .u32 (x.ttl : Int)) ∧ W.cell? ⟨b, off + i * 7 + 2, none⟩ = some (.int .i64 x.data.ty) ∧ W.cell? ⟨b, off + i * 7 + 3, none⟩ = some (.slice p3 q3 r3) ∧ W.cell? ⟨b, off + i * 7 + 4, none⟩ = some (.slice p4 q4 r4) ∧ W.cell? ⟨b, off + i * 7 + 5, none⟩ = some (.slice p5 q5 r5) ∧ W.cell? ⟨b, off + i * 7 + 6, none⟩ = some (.slice p6 q6 r6) ∧ Below w1.heap.size w1 W)) => KC.out W.drew (h.2.2.2.2.2.2.2.trans ⟨rfl, rfl, rfl, qN0, fun _ _ => rfl⟩))
    have KA := qH0 (fun W o (h : (W.cell? ⟨b, off + i * 7, none⟩ = some (.slice p0 q0 r0) ∧ W.cell? ⟨b, off + i * 7 + 1, none⟩ = some (.int .u32 (x.ttl : Int)) ∧ W.cell? ⟨b, off + i * 7 + 2, none⟩ = some (.int .i64 x.data.ty) ∧ W.cell? ⟨b, off + i * 7 + 3, none⟩ = some (.slice p3 q3 r3) ∧ W.cell? ⟨b, off + i * 7 + 4, none⟩ = some (.slice p4 q4 r4) ∧ W.cell? ⟨b, off + i * 7 + 5, none⟩ = some (.slice p5 q5 r5) ∧ W.cell? ⟨b, off + i * 7 + 6, none⟩ = some (.slice p6 q6 r6) ∧ Below w1.heap.size w1 W)) => KC.out (W.alloc o) (h.2.2.2.2.2.2.2.alloc h.2.2.2.2.2.2.2.size o))
    have hS0 := KC.out W2 HB2.out
    go_wp2_with fail
    go_region_held3 (fun W => W.cell? ⟨b, off + i * 7, none⟩ = some (.slice p0 q0 r0) ∧ W.cell? ⟨b, off + i * 7 + 1, none⟩ = some (.int .u32 (x.ttl : Int)) ∧ W.cell? ⟨b, off + i * 7 + 2, none⟩ = some (.int .i64 x.data.ty) ∧ W.cell? ⟨b, off + i * 7 + 3, none⟩ = some (.slice p3 q3 r3) ∧ W.cell? ⟨b, off + i * 7 + 4, none⟩ = some (.slice p4 q4 r4) ∧ W.cell? ⟨b, off + i * 7 + 5, none⟩ = some (.slice p5 q5 r5) ∧ W.cell? ⟨b, off + i * 7 + 6, none⟩ = some (.slice p6 q6 r6) ∧ Below w1.heap.size w1 W)
     (first | with_reducible assumption | (with_reducible exact KR.out _ (by with_reducible assumption)) | (with_reducible exact KA.out _ _ (by with_reducible assumption)) | (with_reducible exact KR.out _ (KA.out _ _ (by with_reducible assumption))) | (with_reducible exact KA.out _ _ (KR.out _ (by with_reducible assumption))) | (with_reducible exact KR.out _ (KA.out _ _ (KA.out _ _ (by with_reducible assumption)))))
     (first | ((with_reducible refine H11.out _ _ _ _ _ _ ?_ ?_ ?_ ?_ ?_); exact rfl; exact rfl; exact rfl; exact rfl; intro v8 w8 ho8 hg8; have hb8 := HWS.out.grown hg8 HWS.out.size (OwnK.base_le HOS.out); have hS2 := KC.out w8 hb8; have HO8 := qH0 ho8; have HG8 := qH0 hg8; clear ho8 hg8))
    all_goals
     have HN8 := qH0 ((HSS.out.grown HOS.out HG8.out).snoc (HN4.out.grown HOS.out HG8.out))
     have HB8 := qH0 (HWS.out.grown HG8.out HWS.out.size (OwnK.base_le HOS.out))
     obtain ⟨a8, c8, e8⟩ := OwnK.shape HO8.out
     have hl8 : (css ++ ([[.slice p0 q0 r0, .int .i64 x.data.ty, .int .u32 (x.ttl : Int), .slice (some ⟨W2.heap.size, 0, none⟩) 1 1]] : List (List Value))).length = m + 1 := by rw [List.length_append, HL.out]; rfl
     rw [hl8] at e8
     subst e8
     clear HG8 hS0 hS2
     go_wp2_with fail
     go_roundg (n - (i + 1))
     case measure => omega
     case rel => exact ⟨i + 1, m + 1, a8, c8, _, rfl, by go_num, by omega, by omega, by omega, qH0 hl8, HO8, qH0 (by rw [HST.out]; exact HN8.out), HB8⟩
   obtain ⟨pre, s, hpre⟩ : ∃ pre s, qam (C.take i) = pre ++ [s] := by
    rcases List.eq_nil_or_concat (qam (C.take i)) with e | ⟨pre, s, e⟩
    ·have h := HSL.out; rw [e] at h; simp at h; omega
    ·exact ⟨pre, s, by rw [e, List.concat_eq_append]⟩
   obtain ⟨k, hk⟩ : ∃ k, pre.length = k := ⟨_, rfl⟩
   have hmk1 : m = k + 1 := by have h := HSL.out; rw [hpre] at h; simp at h; omega
   have HPRE := qH0 hpre; have HPL := qH0 hk
   have hkl : k < css.length := by have := HL.out; omega
   have hks : k < (qam (C.take i)).length := by have := HSL.out; omega
   obtain ⟨g, cur, rfl, hgb, hgw, hgc⟩ := OwnC.someK HO.out (by omega)
   obtain ⟨⟨u0, v0, y0⟩, ⟨u3, v3, y3⟩, ds, e4, hns, hdo, hdd⟩ := HS.out.2 k hkl hks
   have hse : (qam (C.take i))[k]'hks = s := by
    have : (pre ++ [s])[k]'(by rw [← hpre]; exact hks) = s := by simp [← hk]
    simpa only [hpre] using this
   rw [hse] at e4 hns hdd
   unfold slW at e4 hns hdo
   simp only at e4 hns hdo
   obtain ⟨g', o', eg, hg', heo⟩ := (SlK.of_own HO.out HS.out.len4).elem4 HS.out.len4 (by omega)
   cases eg
   have hj := fun W (hb : Below wr.heap.size wr W) => heo k hkl _ _ _ _ e4 W hb
   simp only [Nat.zero_add] at hj
   have HJ := qH0 hj; have HE4 := qH0 (show ∀ (h : k < css.length) (z : Value), (css[k]'h).set 3 z = [.slice u0 v0 y0, .int .i64 s.ty, .int .u32 (s.ttl : Int), z] from fun h z => by rw [e4]; rfl)
   have HGR := qH0 hgw; have HGB := qH0 hgb
   have HNS := qH0 hns; have HDO := qH0 hdo; have HDD := qH0 hdd
   have hoks : NmOK s.owner := by
    obtain ⟨r, h1, h2⟩ := qhC (C.take i) s (by rw [hpre]; simp)
    rw [h2]; exact (HOKC.out r (List.mem_of_mem_take h1)).1
   have hdn : v3 = ds.length := by
    obtain ⟨_, _, e⟩ := OwnK.shape hdo
    injection e
   have HDN := qH0 (show ds.length ≤ 1000000 by
    rw [hdd.1]
    have h := qeV _ (C.take i) (qN0)
    rw [← qeD, hpre, List.map_append, List.sum_append, List.length_take] at h
    simp only [List.map_cons, List.map_nil, List.sum_cons, List.sum_nil, Nat.add_zero] at h
    omega)
   have hmk : (m : Int) - 1 = (k : Int) := by omega
   have hk0 : (0 : Int) ≤ (k : Int) := by omega
   have hkm : (k : Int) < (m : Int) := by omega
   obtain ⟨t1, ht1⟩ : ∃ t, sameN s.owner x.owner = t := ⟨_, rfl⟩
   have b6 := fun p : WIn (fun W => Below wr.heap.size wr W) => HW01.out.trans ((HB.out.trans (p.ok.mono HB.out.size)).mono HW01.out.size)
   have f0 := fun p : WIn (fun W => Below wr.heap.size wr W) => HE.out p.w (HB.out.trans (p.ok.mono HB.out.size))
   have f1 := fun p : WIn (fun W => Below wr.heap.size wr W) => hj p.w p.ok
   have hc1 := fun p : WIn (fun W => Below wr.heap.size wr W) => Calls.cls (C := fun W => Below wr.heap.size wr W) ((qbS (.slice u0 v0 y0) (.slice p0 q0 r0) s.owner x.owner t1 ht1 p.w (HNS.out.below (b6 p)) (HNO.out.below (b6 p)) hoks HOKX.out.1).mono fun _ _ ⟨hq, hb⟩ => ⟨hq, p.ok.trans (hb.mono p.ok.size)⟩)
   have h0 := fun p => (f0 p).1; have h2 := fun p => (f0 p).2.2.1
   have j0 := fun p => (f1 p).1; have j1 := fun p => (f1 p).2.1
   have g0 := hne; have g1 := hne
   clear hj heo hg' e4 hns hdo hdd hgb hgw hoks hse hks hkl hk hpre f0 f1 b6 hdn hmk1
   cases t1
   ·have HST := qH0 (show qam (C.take (i + 1)) = qam (C.take i) ++ [newS x] by
     rw [hst, HPRE.out, qbJ, if_neg (by unfold hitS; rw [ht1]; simp)])
    clear hst ht1
    go_wp2_with fail
    refine qad (fun W => Below wr.heap.size wr W) qae (by kernel_rfl) hcl ?_
    repeat (go_big_quiet_step (exact hc1 _))
    refine wpQuiet_nil ?_
    rintro _ ⟨p, rfl⟩
    clear h0 h2 j0 j1 hc1
    have HP := qH0 p.ok
    clear g0 g1
    have HO2 := qH0 (OwnK.below HO.out HP.out)
    have HS2 := qH0 (HS.out.below HP.out)
    have HB2 := qH0 (qB0 HB.out HP.out)
    generalize p.w = W2 at *
    have hbd : Below W2.heap.size W2 W2.drew := ⟨rfl, rfl, rfl, qN0, fun _ _ => rfl⟩
    have hbA : Below W2.heap.size W2 (W2.alloc (.cells #[.int .i64 x.data.ty, .slice p3 q3 r3, .slice p4 q4 r4, .slice p5 q5 r5, .slice p6 q6 r6] 87)).drew := hbd.alloc (qN0) _
    have hbB : Below W2.heap.size W2 ((W2.alloc (.cells #[.int .i64 x.data.ty, .slice p3 q3 r3, .slice p4 q4 r4, .slice p5 q5 r5, .slice p6 q6 r6] 87)).alloc (.cells #[.slice p0 q0 r0, .int .i64 x.data.ty, .int .u32 (x.ttl : Int), .slice (some ⟨W2.heap.size, 0, none⟩) 1 1] 80)).drew := hbA.alloc (by simp) _
    have hsz := HB2.out.size
    obtain ⟨c0, c1, c2, c3, c4, c5, c6⟩ := HE.out W2.drew (HB2.out.trans (hbd.mono hsz))
    obtain ⟨d0, d1, d2, d3, d4, d5, d6⟩ := HE.out ((W2.alloc (.cells #[.int .i64 x.data.ty, .slice p3 q3 r3, .slice p4 q4 r4, .slice p5 q5 r5, .slice p6 q6 r6] 87)).drew) (HB2.out.trans (hbA.mono hsz))
    have HOS := qH0 (OwnK.below HO2.out hbB)
    have HSS := qH0 (HS2.out.below hbB)
    have HWS := qH0 (HB2.out.trans (hbB.mono hsz))
    have hkB := knew (W2.drew.alloc (.cells #[.int .i64 x.data.ty, .slice p3 q3 r3, .slice p4 q4 r4, .slice p5 q5 r5, .slice p6 q6 r6] 87)) (.cells #[.slice p0 q0 r0, .int .i64 x.data.ty, .int .u32 (x.ttl : Int), .slice (some ⟨W2.heap.size, 0, none⟩) 1 1] 80)
    rw [World.size_alloc] at hkB
    have HKB := qH0 (show ((W2.alloc (.cells #[.int .i64 x.data.ty, .slice p3 q3 r3, .slice p4 q4 r4, .slice p5 q5 r5, .slice p6 q6 r6] 87)).alloc (.cells #[.slice p0 q0 r0, .int .i64 x.data.ty, .int .u32 (x.ttl : Int), .slice (some ⟨W2.heap.size, 0, none⟩) 1 1] 80)).drew.heap[W2.heap.size + 1]? = some (.cells #[.slice p0 q0 r0, .int .i64 x.data.ty, .int .u32 (x.ttl : Int), .slice (some ⟨W2.heap.size, 0, none⟩) 1 1] 80) from hkB)
    have ho1 : OwnC 5 87 (W2.drew.alloc (.cells #[.int .i64 x.data.ty, .slice p3 q3 r3, .slice p4 q4 r4, .slice p5 q5 r5, .slice p6 q6 r6] 87)) W2.heap.size (.slice (some ⟨W2.heap.size, 0, none⟩) 1 1) [[.int .i64 x.data.ty, .slice p3 q3 r3, .slice p4 q4 r4, .slice p5 q5 r5, .slice p6 q6 r6]] := qfq W2.drew (cs := [.int .i64 x.data.ty, .slice p3 q3 r3, .slice p4 q4 r4, .slice p5 q5 r5, .slice p6 q6 r6]) rfl
    have HO1 := qH0 (show OwnC 5 87 ((W2.alloc (.cells #[.int .i64 x.data.ty, .slice p3 q3 r3, .slice p4 q4 r4, .slice p5 q5 r5, .slice p6 q6 r6] 87)).alloc (.cells #[.slice p0 q0 r0, .int .i64 x.data.ty, .int .u32 (x.ttl : Int), .slice (some ⟨W2.heap.size, 0, none⟩) 1 1] 80)).drew w1.heap.size (.slice (some ⟨W2.heap.size, 0, none⟩) 1 1) [[.int .i64 x.data.ty, .slice p3 q3 r3, .slice p4 q4 r4, .slice p5 q5 r5, .slice p6 q6 r6]] from OwnK.weaken (OwnK.alloc ho1 _) hsz)
    have HN4 := qH0 (show RSet w0 ((W2.alloc (.cells #[.int .i64 x.data.ty, .slice p3 q3 r3, .slice p4 q4 r4, .slice p5 q5 r5, .slice p6 q6 r6] 87)).alloc (.cells #[.slice p0 q0 r0, .int .i64 x.data.ty, .int .u32 (x.ttl : Int), .slice (some ⟨W2.heap.size, 0, none⟩) 1 1] 80)).drew w1.heap.size [.slice p0 q0 r0, .int .i64 x.data.ty, .int .u32 (x.ttl : Int), .slice (some ⟨W2.heap.size, 0, none⟩) 1 1] (newS x) from ⟨(p0, q0, r0), (some ⟨W2.heap.size, 0, none⟩, 1, 1), [[.int .i64 x.data.ty, .slice p3 q3 r3, .slice p4 q4 r4, .slice p5 q5 r5, .slice p6 q6 r6]], rfl, HNO.out, HO1.out, (Dts.nil w0).snoc rfl HDA.out⟩)
    have H11 := qH0 (qah (((W2.alloc (.cells #[.int .i64 x.data.ty, .slice p3 q3 r3, .slice p4 q4 r4, .slice p5 q5 r5, .slice p6 q6 r6] 87)).alloc (.cells #[.slice p0 q0 r0, .int .i64 x.data.ty, .int .u32 (x.ttl : Int), .slice (some ⟨W2.heap.size, 0, none⟩) 1 1] 80)).drew) (.tmp 85) (.tmp 109) qdt (by decide) w1.heap.size (.slice (some ⟨g, 0, none⟩) m gc) (css) (HOS.out) (.slice (some ⟨W2.heap.size + 1, 0, none⟩) 1 1) ([[.slice p0 q0 r0, .int .i64 x.data.ty, .int .u32 (x.ttl : Int), .slice (some ⟨W2.heap.size, 0, none⟩) 1 1]]) (qay (css := [[.slice p0 q0 r0, .int .i64 x.data.ty, .int .u32 (x.ttl : Int), .slice (some ⟨W2.heap.size, 0, none⟩) 1 1]]) HKB.out) (lenS _ _ _ _) (one4 rfl rfl rfl rfl) (HWS.out.size) (by have := HL.out; have := HNK.out; unfold maxLen; simp only [List.length_cons, List.length_nil]; omega) (by have := HL.out; have := HNK.out; simp only [List.length_cons, List.length_nil]; omega))
    clear hbd hbA hbB hkB ho1 hsz c0 c1 c2 c3 c4 c5 c6 d0 d1 d2 d3 d4 d5 d6
    have KC := qH0 (fun W (hb : Below w1.heap.size w1 W) => (show (W.cell? ⟨b, off + i * 7, none⟩ = some (.slice p0 q0 r0) ∧ W.cell? ⟨b, off + i * 7 + 1, none⟩ = some (.int .u32 (x.ttl : Int)) ∧ W.cell? ⟨b, off + i * 7 + 2, none⟩ = some (.int .i64 x.data.ty) ∧ W.cell? ⟨b, off + i * 7 + 3, none⟩ = some (.slice p3 q3 r3) ∧ W.cell? ⟨b, off + i * 7 + 4, none⟩ = some (.slice p4 q4 r4) ∧ W.cell? ⟨b, off + i * 7 + 5, none⟩ = some (.slice p5 q5 r5) ∧ W.cell? ⟨b, off + i * 7 + 6, none⟩ = some (.slice p6 q6 r6) ∧ Below w1.heap.size w1 W) from by
     obtain ⟨k0, k1, k2, k3, k4, k5, k6⟩ := HE.out W hb
     exact ⟨k0, k1, k2, k3, k4, k5, k6, hb⟩))
    have KR := qH0 (fun W (h : (W.cell? ⟨b, off + i * 7, none⟩ = some (.slice p0 q0 r0) ∧ W.cell? ⟨b, off + i * 7 + 1, none⟩ = some (.int .u32 (x.ttl : Int)) ∧ W.cell? ⟨b, off + i * 7 + 2, none⟩ = some (.int .i64 x.data.ty) ∧ W.cell? ⟨b, off + i * 7 + 3, none⟩ = some (.slice p3 q3 r3) ∧ W.cell? ⟨b, off + i * 7 + 4, none⟩ = some (.slice p4 q4 r4) ∧ W.cell? ⟨b, off + i * 7 + 5, none⟩ = some (.slice p5 q5 r5) ∧ W.cell? ⟨b, off + i * 7 + 6, none⟩ = some (.slice p6 q6 r6) ∧ Below w1.heap.size w1 W)) => KC.out W.drew (h.2.2.2.2.2.2.2.trans ⟨rfl, rfl, rfl, qN0, fun _ _ => rfl⟩))
    have KA := qH0 (fun W o (h : (W.cell? ⟨b, off + i * 7, none⟩ = some (.slice p0 q0 r0) ∧ W.cell? ⟨b, off + i * 7 + 1, none⟩ = some (.int .u32 (x.ttl : Int)) ∧ W.cell? ⟨b, off + i * 7 + 2, none⟩ = some (.int .i64 x.data.ty) ∧ W.cell? ⟨b, off + i * 7 + 3, none⟩ = some (.slice p3 q3 r3) ∧ W.cell? ⟨b, off + i * 7 + 4, none⟩ = some (.slice p4 q4 r4) ∧ W.cell? ⟨b, off + i * 7 + 5, none⟩ = some (.slice p5 q5 r5) ∧ W.cell? ⟨b, off + i * 7 + 6, none⟩ = some (.slice p6 q6 r6) ∧ Below w1.heap.size w1 W)) => KC.out (W.alloc o) (h.2.2.2.2.2.2.2.alloc h.2.2.2.2.2.2.2.size o))
    have hS0 := KC.out W2 HB2.out
    go_wp2_with fail
    go_region_held3 (fun W => W.cell? ⟨b, off + i * 7, none⟩ = some (.slice p0 q0 r0) ∧ W.cell? ⟨b, off + i * 7 + 1, none⟩ = some (.int .u32 (x.ttl : Int)) ∧ W.cell? ⟨b, off + i * 7 + 2, none⟩ = some (.int .i64 x.data.ty) ∧ W.cell? ⟨b, off + i * 7 + 3, none⟩ = some (.slice p3 q3 r3) ∧ W.cell? ⟨b, off + i * 7 + 4, none⟩ = some (.slice p4 q4 r4) ∧ W.cell? ⟨b, off + i * 7 + 5, none⟩ = some (.slice p5 q5 r5) ∧ W.cell? ⟨b, off + i * 7 + 6, none⟩ = some (.slice p6 q6 r6) ∧ Below w1.heap.size w1 W)
     (first | with_reducible assumption | (with_reducible exact KR.out _ (by with_reducible assumption)) | (with_reducible exact KA.out _ _ (by with_reducible assumption)) | (with_reducible exact KR.out _ (KA.out _ _ (by with_reducible assumption))) | (with_reducible exact KA.out _ _ (KR.out _ (by with_reducible assumption))) | (with_reducible exact KR.out _ (KA.out _ _ (KA.out _ _ (by with_reducible assumption)))))
     (first | ((with_reducible refine H11.out _ _ _ _ _ _ ?_ ?_ ?_ ?_ ?_); exact rfl; exact rfl; exact rfl; exact rfl; intro v8 w8 ho8 hg8; have hb8 := HWS.out.grown hg8 HWS.out.size (OwnK.base_le HOS.out); have hS2 := KC.out w8 hb8; have HO8 := qH0 ho8; have HG8 := qH0 hg8; clear ho8 hg8))
    all_goals
     have HN8 := qH0 ((HSS.out.grown HOS.out HG8.out).snoc (HN4.out.grown HOS.out HG8.out))
     have HB8 := qH0 (HWS.out.grown HG8.out HWS.out.size (OwnK.base_le HOS.out))
     obtain ⟨a8, c8, e8⟩ := OwnK.shape HO8.out
     have hl8 : (css ++ ([[.slice p0 q0 r0, .int .i64 x.data.ty, .int .u32 (x.ttl : Int), .slice (some ⟨W2.heap.size, 0, none⟩) 1 1]] : List (List Value))).length = m + 1 := by rw [List.length_append, HL.out]; rfl
     rw [hl8] at e8
     subst e8
     clear HG8 hS0 hS2
     go_wp2_with fail
     go_roundg (n - (i + 1))
     case measure => omega
     case rel => exact ⟨i + 1, m + 1, a8, c8, _, rfl, by go_num, by omega, by omega, by omega, qH0 hl8, HO8, qH0 (by rw [HST.out]; exact HN8.out), HB8⟩
   ·by_cases hty : s.ty = x.data.ty
    ·have HST := qH0 (show qam (C.take (i + 1)) = pre ++ [joinS s x] by
      rw [hst, HPRE.out, qbJ, if_pos (by unfold hitS; rw [ht1, decide_eq_true hty]; rfl)])
     have HTY := qH0 hty
     have htyb : (s.ty == x.data.ty) = true := by simpa using hty
     clear hst ht1 hty
     go_wp2_with fail
     refine qad (fun W => Below wr.heap.size wr W) qae (by kernel_rfl) hcl ?_
     repeat (go_big_quiet_step (exact hc1 _))
     refine wpQuiet_nil ?_
     rintro _ ⟨p, rfl⟩
     clear h0 h2 j0 j1 hc1 htyb
     have HP := qH0 p.ok
     clear g0 g1
     have HO2 := qH0 (OwnK.below HO.out HP.out)
     have HS2 := qH0 (HS.out.below HP.out)
     have HB2 := qH0 (qB0 HB.out HP.out)
     have HGW := qH0 ((HP.out.block _ (qaa HGR.out)).trans HGR.out)
     have HEO := qH0 (fun W (hb : Below p.w.heap.size p.w W) => (HJ.out W (qB0 HP.out hb)).2.2.2)
     have HDO2 := qH0 (OwnK.below HDO.out HP.out)
     have HSD := qH0 (SlK.of_own HDO2.out (qcK HDD.out))
     generalize p.w = W2 at *
     have HSZ := qH0 HB2.out.size
     have hsz := HB2.out.size
     have hbd : Below W2.heap.size W2 W2.drew := ⟨rfl, rfl, rfl, qN0, fun _ _ => rfl⟩
     have hbA : Below W2.heap.size W2 (W2.alloc (.cells #[] 87)).drew := hbd.alloc (qN0) _
     have hbX : Below W2.heap.size W2 (W2.alloc (.cells #[.int .i64 x.data.ty, .slice p3 q3 r3, .slice p4 q4 r4, .slice p5 q5 r5, .slice p6 q6 r6] 87)).drew := hbd.alloc (qN0) _
     have hbB : Below W2.heap.size W2 ((W2.alloc (.cells #[] 87)).alloc (.cells #[.int .i64 x.data.ty, .slice p3 q3 r3, .slice p4 q4 r4, .slice p5 q5 r5, .slice p6 q6 r6] 87)).drew := hbA.alloc (by simp) _
     have hbC : Below W2.heap.size W2 ((W2.alloc (.cells #[.int .i64 x.data.ty, .slice p3 q3 r3, .slice p4 q4 r4, .slice p5 q5 r5, .slice p6 q6 r6] 87)).alloc (.cells #[] 87)).drew := hbX.alloc (by simp) _
     have HBA := qH0 hbA; have HBB := qH0 hbB; have HBC := qH0 hbC
     have HOA := qH0 (show OwnC 5 87 (W2.alloc (.cells #[] 87)).drew W2.heap.size (.slice (some ⟨W2.heap.size, 0, none⟩) 0 0) [] from qau 5 87 W2.drew)
     have HOB := qH0 (show OwnC 5 87 ((W2.alloc (.cells #[] 87)).alloc (.cells #[.int .i64 x.data.ty, .slice p3 q3 r3, .slice p4 q4 r4, .slice p5 q5 r5, .slice p6 q6 r6] 87)).drew W2.heap.size (.slice (some ⟨W2.heap.size, 0, none⟩) 0 0) [] from OwnK.alloc (qau 5 87 W2.drew) _)
     have hoC := qau 5 87 (W2.drew.alloc (.cells #[.int .i64 x.data.ty, .slice p3 q3 r3, .slice p4 q4 r4, .slice p5 q5 r5, .slice p6 q6 r6] 87))
     rw [World.size_alloc] at hoC
     have HOC := qH0 (show OwnC 5 87 ((W2.alloc (.cells #[.int .i64 x.data.ty, .slice p3 q3 r3, .slice p4 q4 r4, .slice p5 q5 r5, .slice p6 q6 r6] 87)).alloc (.cells #[] 87)).drew W2.heap.size (.slice (some ⟨W2.heap.size + 1, 0, none⟩) 0 0) [] from OwnK.weaken hoC (by show W2.heap.size ≤ W2.heap.size + 1; omega))
     have hkB := knew (W2.drew.alloc (.cells #[] 87)) (.cells #[.int .i64 x.data.ty, .slice p3 q3 r3, .slice p4 q4 r4, .slice p5 q5 r5, .slice p6 q6 r6] 87)
     rw [World.size_alloc] at hkB
     have HKB := qH0 (show ((W2.alloc (.cells #[] 87)).alloc (.cells #[.int .i64 x.data.ty, .slice p3 q3 r3, .slice p4 q4 r4, .slice p5 q5 r5, .slice p6 q6 r6] 87)).drew.heap[W2.heap.size + 1]? = some (.cells #[.int .i64 x.data.ty, .slice p3 q3 r3, .slice p4 q4 r4, .slice p5 q5 r5, .slice p6 q6 r6] 87) from hkB)
     have HKC := qH0 (show ((W2.alloc (.cells #[.int .i64 x.data.ty, .slice p3 q3 r3, .slice p4 q4 r4, .slice p5 q5 r5, .slice p6 q6 r6] 87)).alloc (.cells #[] 87)).drew.heap[W2.heap.size]? = some (.cells #[.int .i64 x.data.ty, .slice p3 q3 r3, .slice p4 q4 r4, .slice p5 q5 r5, .slice p6 q6 r6] 87) from (Below.heap_alloc (W2.drew.alloc (.cells #[.int .i64 x.data.ty, .slice p3 q3 r3, .slice p4 q4 r4, .slice p5 q5 r5, .slice p6 q6 r6] 87)) (.cells #[] 87) W2.heap.size (by simp)).trans (knew W2.drew (.cells #[.int .i64 x.data.ty, .slice p3 q3 r3, .slice p4 q4 r4, .slice p5 q5 r5, .slice p6 q6 r6] 87)))
     obtain ⟨c0, c1, c2, c3, c4, c5, c6⟩ := HE.out W2.drew (HB2.out.trans (hbd.mono hsz))
     obtain ⟨d0, d1, d2, d3, d4, d5, d6⟩ := HE.out (W2.alloc (.cells #[] 87)).drew (HB2.out.trans (hbA.mono hsz))
     have o0 := HEO.out W2.drew hbd
     have o1 := HEO.out (W2.alloc (.cells #[] 87)).drew hbA
     have o2 := HEO.out (W2.alloc (.cells #[.int .i64 x.data.ty, .slice p3 q3 r3, .slice p4 q4 r4, .slice p5 q5 r5, .slice p6 q6 r6] 87)).drew hbX
     have o3 := HEO.out ((W2.alloc (.cells #[] 87)).alloc (.cells #[.int .i64 x.data.ty, .slice p3 q3 r3, .slice p4 q4 r4, .slice p5 q5 r5, .slice p6 q6 r6] 87)).drew hbB
     have o4 := HEO.out ((W2.alloc (.cells #[.int .i64 x.data.ty, .slice p3 q3 r3, .slice p4 q4 r4, .slice p5 q5 r5, .slice p6 q6 r6] 87)).alloc (.cells #[] 87)).drew hbC
     have H4A := qH0 (qah ((W2.alloc (.cells #[] 87)).drew) (.tmp 49) (.tmp 54) qbH (by decide) W2.heap.size (.slice (some ⟨W2.heap.size, 0, none⟩) 0 0) ([]) (HOA.out) (.slice u3 v3 y3) (ds) (HSD.out.below HBA.out) (qcK HDD.out) (qfp HDD.out) (HBA.out.size) (by have := HDN.out; unfold maxLen; simp only [List.length_nil]; omega) (by have := HDN.out; simp only [List.length_nil]; omega))
     have H4B := qH0 (qah (((W2.alloc (.cells #[] 87)).alloc (.cells #[.int .i64 x.data.ty, .slice p3 q3 r3, .slice p4 q4 r4, .slice p5 q5 r5, .slice p6 q6 r6] 87)).drew) (.tmp 49) (.tmp 54) qbH (by decide) W2.heap.size (.slice (some ⟨W2.heap.size, 0, none⟩) 0 0) ([]) (HOB.out) (.slice u3 v3 y3) (ds) (HSD.out.below HBB.out) (qcK HDD.out) (qfp HDD.out) (HBB.out.size) (by have := HDN.out; unfold maxLen; simp only [List.length_nil]; omega) (by have := HDN.out; simp only [List.length_nil]; omega))
     have H4C := qH0 (qah (((W2.alloc (.cells #[.int .i64 x.data.ty, .slice p3 q3 r3, .slice p4 q4 r4, .slice p5 q5 r5, .slice p6 q6 r6] 87)).alloc (.cells #[] 87)).drew) (.tmp 49) (.tmp 54) qbH (by decide) W2.heap.size (.slice (some ⟨W2.heap.size + 1, 0, none⟩) 0 0) ([]) (HOC.out) (.slice u3 v3 y3) (ds) (HSD.out.below HBC.out) (qcK HDD.out) (qfp HDD.out) (HBC.out.size) (by have := HDN.out; unfold maxLen; simp only [List.length_nil]; omega) (by have := HDN.out; simp only [List.length_nil]; omega))
     clear hbd hbA hbB hbC hbX hoC hkB hsz
     go_upto_region 8 with (fail)
     go_cut [] from 47 to 110 (fun wx => ∃ (a5 : Option Addr) (n5 z5 : Nat) (cur3 : Array Value), Hid (OwnC 4 80 wx w1.heap.size (.slice (some ⟨g, 0, none⟩) m gc) (css.set k [.slice u0 v0 y0, .int .i64 s.ty, .int .u32 (s.ttl : Int), .slice a5 n5 z5])) ∧ Hid (RSets w0 wx w1.heap.size (css.set k [.slice u0 v0 y0, .int .i64 s.ty, .int .u32 (s.ttl : Int), .slice a5 n5 z5]) ((qam (C.take i)).set k ⟨s.owner, s.ty, s.ttl, s.data ++ [x.data]⟩)) ∧ Hid (Below w1.heap.size w1 wx) ∧ Hid (wx.heap[g]? = some (.cells cur3 80)))
     case first =>
      go_region_law (first
       | ((with_reducible refine H4A.out _ _ _ _ _ _ ?_ ?_ ?_ ?_ ?_); exact rfl; exact rfl; exact rfl; exact rfl; intro v4 w4 ho4 hg4; rw [List.nil_append] at ho4; have HO4 := qH0 ho4; have HB4 := qH0 (HBA.out.grown hg4 HBA.out.size (OwnK.base_le HOA.out)); have H10 := qH0 (qah (w4.alloc (.cells #[.int .i64 x.data.ty, .slice p3 q3 r3, .slice p4 q4 r4, .slice p5 q5 r5, .slice p6 q6 r6] 87)) (.tmp 55) (.tmp 61) qbH (by decide) W2.heap.size v4 (ds) (OwnK.alloc HO4.out _) (.slice (some ⟨w4.heap.size, 0, none⟩) 1 1) ([[.int .i64 x.data.ty, .slice p3 q3 r3, .slice p4 q4 r4, .slice p5 q5 r5, .slice p6 q6 r6]]) (qay (css := [[.int .i64 x.data.ty, .slice p3 q3 r3, .slice p4 q4 r4, .slice p5 q5 r5, .slice p6 q6 r6]]) (knew w4 _)) (lenD _ _ _ _ _) (one5 rfl rfl rfl rfl rfl) (by have := HB4.out.size; simp; omega) (by have := HDN.out; unfold maxLen; simp only [List.length_cons, List.length_nil]; omega) (by have := HDN.out; simp only [List.length_cons, List.length_nil]; omega)); have H10B := qH0 (fun (w5 : World) (hg : World.grownBy (w4.alloc (.cells #[.int .i64 x.data.ty, .slice p3 q3 r3, .slice p4 q4 r4, .slice p5 q5 r5, .slice p6 q6 r6] 87)) w5 v4.ownBlock) => ((HB4.out.alloc HB4.out.size _).grown hg (by have := HB4.out.size; simp; omega) (OwnK.base_le HO4.out))); obtain ⟨e0, e1, e2, e3, e4, e5, e6⟩ := HE.out w4 (HB2.out.trans (HB4.out.mono HSZ.out)); clear ho4 hg4)
       | ((with_reducible refine H4B.out _ _ _ _ _ _ ?_ ?_ ?_ ?_ ?_); exact rfl; exact rfl; exact rfl; exact rfl; intro v4 w4 ho4 hg4; rw [List.nil_append] at ho4; have HO4 := qH0 ho4; have HB4 := qH0 (HBB.out.grown hg4 HBB.out.size (OwnK.base_le HOB.out)); have HBX := qH0 ((hg4.block (W2.heap.size + 1) (qaa HKB.out) (by simp [Value.ownBlock])).trans HKB.out); have H10 := qH0 (qah (w4) (.tmp 55) (.tmp 61) qbH (by decide) W2.heap.size v4 (ds) (HO4.out) (.slice (some ⟨W2.heap.size + 1, 0, none⟩) 1 1) ([[.int .i64 x.data.ty, .slice p3 q3 r3, .slice p4 q4 r4, .slice p5 q5 r5, .slice p6 q6 r6]]) (qay (css := [[.int .i64 x.data.ty, .slice p3 q3 r3, .slice p4 q4 r4, .slice p5 q5 r5, .slice p6 q6 r6]]) (HBX.out)) (lenD _ _ _ _ _) (one5 rfl rfl rfl rfl rfl) (HB4.out.size) (by have := HDN.out; unfold maxLen; simp only [List.length_cons, List.length_nil]; omega) (by have := HDN.out; simp only [List.length_cons, List.length_nil]; omega)); have H10B := qH0 (fun (w5 : World) (hg : World.grownBy (w4) w5 v4.ownBlock) => (HB4.out.grown hg HB4.out.size (OwnK.base_le HO4.out))); clear ho4 hg4)
       | ((with_reducible refine H4C.out _ _ _ _ _ _ ?_ ?_ ?_ ?_ ?_); exact rfl; exact rfl; exact rfl; exact rfl; intro v4 w4 ho4 hg4; rw [List.nil_append] at ho4; have HO4 := qH0 ho4; have HB4 := qH0 (HBC.out.grown hg4 HBC.out.size (OwnK.base_le HOC.out)); have HBX := qH0 ((hg4.block W2.heap.size (qaa HKC.out) (by simp [Value.ownBlock])).trans HKC.out); have H10 := qH0 (qah (w4) (.tmp 55) (.tmp 61) qbH (by decide) W2.heap.size v4 (ds) (HO4.out) (.slice (some ⟨W2.heap.size, 0, none⟩) 1 1) ([[.int .i64 x.data.ty, .slice p3 q3 r3, .slice p4 q4 r4, .slice p5 q5 r5, .slice p6 q6 r6]]) (qay (css := [[.int .i64 x.data.ty, .slice p3 q3 r3, .slice p4 q4 r4, .slice p5 q5 r5, .slice p6 q6 r6]]) (HBX.out)) (lenD _ _ _ _ _) (one5 rfl rfl rfl rfl rfl) (HB4.out.size) (by have := HDN.out; unfold maxLen; simp only [List.length_cons, List.length_nil]; omega) (by have := HDN.out; simp only [List.length_cons, List.length_nil]; omega)); have H10B := qH0 (fun (w5 : World) (hg : World.grownBy (w4) w5 v4.ownBlock) => (HB4.out.grown hg HB4.out.size (OwnK.base_le HO4.out))); clear ho4 hg4)
       | ((with_reducible refine H10.out _ _ _ _ _ _ ?_ ?_ ?_ ?_ ?_); exact rfl; exact rfl; exact rfl; exact rfl; intro v5 w5 ho5 hg5; have HB5 := qH0 (H10B.out w5 hg5); obtain ⟨a5, z5, e5⟩ := OwnK.shape ho5; generalize List.length (ds ++ _) = n5 at e5; subst e5; have HO5 := qH0 ho5; have hgx := (HB5.out.block g (qaa HGW.out)).trans HGW.out; have cz := HEO.out w5 HB5.out; have fz := qag hgx (k * 4 + 3); have HGX := qH0 hgx; clear ho5 hg5 hgx))
      all_goals
       have hkl : k < css.length := by have := HL.out; omega
       have HPUT := qH0 (OwnC.putK (OwnK.below HO2.out HB5.out) HS2.out.len4 k hkl 3 (by decide) (.slice a5 n5 z5))
       rw [HE4.out hkl] at HPUT
       have HD5 : Hid (OwnC 5 87 (w5.setCell ⟨g, k * 4 + 3, none⟩ (.slice a5 n5 z5)) w1.heap.size (slW (a5, n5, z5)) (ds ++ ([[.int .i64 x.data.ty, .slice p3 q3 r3, .slice p4 q4 r4, .slice p5 q5 r5, .slice p6 q6 r6]] : List (List Value)))) := qH0 (OwnK.weaken (OwnK.keptB HO5.out HGX.out (by decide) _ _) HSZ.out)
       have HR5 : Hid (RSet w0 (w5.setCell ⟨g, k * 4 + 3, none⟩ (.slice a5 n5 z5)) w1.heap.size [.slice u0 v0 y0, .int .i64 s.ty, .int .u32 (s.ttl : Int), .slice a5 n5 z5] ⟨s.owner, s.ty, s.ttl, s.data ++ [x.data]⟩) := qH0 ⟨(u0, v0, y0), (a5, n5, z5), _, rfl, HNS.out, HD5.out, HDD.out.snoc rfl HDA.out⟩
       have HS3 := qH0 (((HS2.out.below HB5.out).put HGX.out (k * 4 + 3) (.slice a5 n5 z5)).set k HR5.out)
       have HB3 := qH0 ((HB2.out.trans (HB5.out.mono HSZ.out)).setCell (p := ⟨g, k * 4 + 3, none⟩) HGB.out (.slice a5 n5 z5))
       have HGX3 := qH0 (kset HGX.out (k * 4 + 3) (.slice a5 n5 z5))
       go_wp2_with fail
       go_meet
       exact ⟨a5, n5, z5, _, HPUT, HS3, HB3, HGX3⟩
     case rest =>
      rename World => W3
      obtain ⟨a5, n5, z5, cur3, HPUT2, HS3, HB3, HGX3⟩ := hcut
      have hkl : k < css.length := by have := HL.out; omega
      clear c0 c1 c2 c3 c4 c5 c6 d0 d1 d2 d3 d4 d5 d6 o0 o1 o2 o3 o4 HS2 HO2 HEO H4A H4B H4C HOA HOB HOC HBA HBB HBC HKB HKC HP HO HS
      have hlk : k < (css.set k [.slice u0 v0 y0, .int .i64 s.ty, .int .u32 (s.ttl : Int), .slice a5 n5 z5]).length := by rw [List.length_set]; exact hkl
      obtain ⟨g', o', eg, hg', heo3⟩ := (SlK.of_own HPUT2.out HS3.out.len4).elem4 HS3.out.len4 (by omega)
      cases eg
      have hcl3 : Below W3.heap.size W3 W3.drew := ⟨rfl, rfl, rfl, qN0, fun _ _ => rfl⟩
      have hne3 : Nonempty (WIn (fun W => Below W3.heap.size W3 W)) := ⟨⟨_, hcl3⟩⟩
      have f0 := fun p : WIn (fun W => Below W3.heap.size W3 W) => (HE.out p.w (HB3.out.trans (p.ok.mono HB3.out.size))).2.1
      have f1 := fun p : WIn (fun W => Below W3.heap.size W3 W) => (heo3 k hlk _ _ _ _ (List.getElem_set_self hlk) p.w p.ok).2.2.1
      simp only [Nat.zero_add] at f1
      have HLS3 : Hid ((css.set k [.slice u0 v0 y0, .int .i64 s.ty, .int .u32 (s.ttl : Int), .slice a5 n5 z5]).length = m) := qH0 (by rw [List.length_set]; exact HL.out)
      generalize hCS : (css.set k [.slice u0 v0 y0, .int .i64 s.ty, .int .u32 (s.ttl : Int), .slice a5 n5 z5]) = css3 at *
      have HCS := qH0 (show css3[k]'hlk = [.slice u0 v0 y0, .int .i64 s.ty, .int .u32 (s.ttl : Int), .slice a5 n5 z5] by subst hCS; exact List.getElem_set_self _)
      clear heo3 hg' hCS hkl
      by_cases hlx : x.ttl < s.ttl
      ·have hlxz : (x.ttl : Int) < (s.ttl : Int) := by omega
       have HEND := qH0 (show qam (C.take (i + 1)) = ((qam (C.take i)).set k ⟨s.owner, s.ty, s.ttl, s.data ++ [x.data]⟩).set k (joinS s x) by
        rw [HST.out, HPRE.out, List.set_set, ← HPL.out, qfx])
       have HJS := qH0 (show joinS s x = ⟨s.owner, s.ty, x.ttl, s.data ++ [x.data]⟩ by unfold joinS; rw [qh3 hlx])
       go_wp2_with fail
       refine qad (fun W => Below W3.heap.size W3 W) qae (by kernel_rfl) hcl3 ?_
       repeat (go_big_quiet_step (fail))
       refine wpQuiet_nil ?_
       rintro _ ⟨p3, rfl⟩
       have HP3 := qH0 p3.ok
       have hg3 := (HP3.out.block _ (qaa HGX3.out)).trans HGX3.out
       have hfz := qag hg3 (k * 4 + 2)
       have s1 := f0 p3
       have s2 := f1 p3
       have hpz := OwnC.putK (OwnK.below HPUT2.out HP3.out) HS3.out.len4 k hlk 2 (by decide) (.int .u32 (x.ttl : Int))
       rw [HCS.out] at hpz
       obtain ⟨z0, z3, dz, ez, nz, oz, tz⟩ := (HS3.out.below HP3.out).2 k hlk (by rw [← HS3.out.1]; exact hlk)
       have HPZ := qH0 (show OwnC 4 80 (p3.w.setCell ⟨g, k * 4 + 2, none⟩ (.int .u32 (x.ttl : Int))) w1.heap.size (.slice (some ⟨g, 0, none⟩) m gc) (css3.set k [.slice u0 v0 y0, .int .i64 s.ty, .int .u32 (x.ttl : Int), .slice a5 n5 z5]) from hpz)
       have hnew : RSet w0 (p3.w.setCell ⟨g, k * 4 + 2, none⟩ (.int .u32 (x.ttl : Int))) w1.heap.size [.slice u0 v0 y0, .int .i64 s.ty, .int .u32 (x.ttl : Int), .slice a5 n5 z5] (joinS s x) := by
        rw [HJS.out]
        rw [HCS.out] at ez
        simp only [List.cons.injEq, and_true] at ez
        have ez3 : slW z3 = .slice a5 n5 z5 := ez.2.2.2.symm
        have hgt : (((qam (C.take i)).set k ⟨s.owner, s.ty, s.ttl, s.data ++ [x.data]⟩)[k]'(by rw [← HS3.out.1]; exact hlk)) = ⟨s.owner, s.ty, s.ttl, s.data ++ [x.data]⟩ := List.getElem_set_self _
        rw [hgt] at tz
        rw [ez3] at oz
        exact ⟨(u0, v0, y0), (a5, n5, z5), dz, rfl, HNS.out, OwnK.keptB oz hg3 (by decide) _ _, tz⟩
       have HSF := qH0 (((HS3.out.below HP3.out).put hg3 (k * 4 + 2) (.int .u32 (x.ttl : Int))).set k hnew)
       have HBF := qH0 ((qB0 HB3.out HP3.out).setCell (p := ⟨g, k * 4 + 2, none⟩) HGB.out (.int .u32 (x.ttl : Int)))
       clear hg3 f0 f1 hpz nz oz tz ez hnew hcl3 hne3
       generalize p3.w = W4 at *
       go_wp2
       go_roundg (n - (i + 1))
       case measure => omega
       case rel => exact ⟨i + 1, m, _, gc, _, rfl, by go_num, by omega, by omega, by omega, qH0 (by rw [List.length_set]; exact HLS3.out), HPZ, qH0 (by rw [HEND.out]; exact HSF.out), HBF⟩
      ·have hlxz : ¬ (x.ttl : Int) < (s.ttl : Int) := by omega
       have HEND := qH0 (show qam (C.take (i + 1)) = ((qam (C.take i)).set k ⟨s.owner, s.ty, s.ttl, s.data ++ [x.data]⟩) by
        rw [HST.out, HPRE.out, ← HPL.out, qfx]
        unfold joinS; rw [qhY hlx])
       go_wp2_with fail
       refine qad (fun W => Below W3.heap.size W3 W) qae (by kernel_rfl) hcl3 ?_
       repeat (go_big_quiet_step (fail))
       refine wpQuiet_nil ?_
       rintro _ ⟨p3, rfl⟩
       have HP3 := qH0 p3.ok
       clear f0 f1 hcl3 hne3
       go_wp2
       go_roundg (n - (i + 1))
       case measure => omega
       case rel => exact ⟨i + 1, m, _, gc, _, rfl, by go_num, by omega, by omega, by omega, HLS3, qH0 (OwnK.below HPUT2.out HP3.out), qH0 (by rw [HEND.out]; exact HS3.out.below HP3.out), qH0 (qB0 HB3.out HP3.out)⟩
    ·have HST := qH0 (show qam (C.take (i + 1)) = qam (C.take i) ++ [newS x] by
      rw [hst, HPRE.out, qbJ, if_neg (by unfold hitS; rw [decide_eq_false hty]; simp)])
     have htyb : (s.ty == x.data.ty) = false := by simpa using hty
     clear hst ht1 hty
     go_wp2_with fail
     refine qad (fun W => Below wr.heap.size wr W) qae (by kernel_rfl) hcl ?_
     repeat (go_big_quiet_step (exact hc1 _))
     refine wpQuiet_nil ?_
     rintro _ ⟨p, rfl⟩
     clear h0 h2 j0 j1 hc1 htyb
     have HP := qH0 p.ok
     clear g0 g1
     have HO2 := qH0 (OwnK.below HO.out HP.out)
     have HS2 := qH0 (HS.out.below HP.out)
     have HB2 := qH0 (qB0 HB.out HP.out)
     generalize p.w = W2 at *
     have hbd : Below W2.heap.size W2 W2.drew := ⟨rfl, rfl, rfl, qN0, fun _ _ => rfl⟩
     have hbA : Below W2.heap.size W2 (W2.alloc (.cells #[.int .i64 x.data.ty, .slice p3 q3 r3, .slice p4 q4 r4, .slice p5 q5 r5, .slice p6 q6 r6] 87)).drew := hbd.alloc (qN0) _
     have hbB : Below W2.heap.size W2 ((W2.alloc (.cells #[.int .i64 x.data.ty, .slice p3 q3 r3, .slice p4 q4 r4, .slice p5 q5 r5, .slice p6 q6 r6] 87)).alloc (.cells #[.slice p0 q0 r0, .int .i64 x.data.ty, .int .u32 (x.ttl : Int), .slice (some ⟨W2.heap.size, 0, none⟩) 1 1] 80)).drew := hbA.alloc (by simp) _
     have hsz := HB2.out.size
     obtain ⟨c0, c1, c2, c3, c4, c5, c6⟩ := HE.out W2.drew (HB2.out.trans (hbd.mono hsz))
     obtain ⟨d0, d1, d2, d3, d4, d5, d6⟩ := HE.out ((W2.alloc (.cells #[.int .i64 x.data.ty, .slice p3 q3 r3, .slice p4 q4 r4, .slice p5 q5 r5, .slice p6 q6 r6] 87)).drew) (HB2.out.trans (hbA.mono hsz))
     have HOS := qH0 (OwnK.below HO2.out hbB)
     have HSS := qH0 (HS2.out.below hbB)
     have HWS := qH0 (HB2.out.trans (hbB.mono hsz))
     have hkB := knew (W2.drew.alloc (.cells #[.int .i64 x.data.ty, .slice p3 q3 r3, .slice p4 q4 r4, .slice p5 q5 r5, .slice p6 q6 r6] 87)) (.cells #[.slice p0 q0 r0, .int .i64 x.data.ty, .int .u32 (x.ttl : Int), .slice (some ⟨W2.heap.size, 0, none⟩) 1 1] 80)
     rw [World.size_alloc] at hkB
     have HKB := qH0 (show ((W2.alloc (.cells #[.int .i64 x.data.ty, .slice p3 q3 r3, .slice p4 q4 r4, .slice p5 q5 r5, .slice p6 q6 r6] 87)).alloc (.cells #[.slice p0 q0 r0, .int .i64 x.data.ty, .int .u32 (x.ttl : Int), .slice (some ⟨W2.heap.size, 0, none⟩) 1 1] 80)).drew.heap[W2.heap.size + 1]? = some (.cells #[.slice p0 q0 r0, .int .i64 x.data.ty, .int .u32 (x.ttl : Int), .slice (some ⟨W2.heap.size, 0, none⟩) 1 1] 80) from hkB)
     have ho1 : OwnC 5 87 (W2.drew.alloc (.cells #[.int .i64 x.data.ty, .slice p3 q3 r3, .slice p4 q4 r4, .slice p5 q5 r5, .slice p6 q6 r6] 87)) W2.heap.size (.slice (some ⟨W2.heap.size, 0, none⟩) 1 1) [[.int .i64 x.data.ty, .slice p3 q3 r3, .slice p4 q4 r4, .slice p5 q5 r5, .slice p6 q6 r6]] := qfq W2.drew (cs := [.int .i64 x.data.ty, .slice p3 q3 r3, .slice p4 q4 r4, .slice p5 q5 r5, .slice p6 q6 r6]) rfl
     have HO1 := qH0 (show OwnC 5 87 ((W2.alloc (.cells #[.int .i64 x.data.ty, .slice p3 q3 r3, .slice p4 q4 r4, .slice p5 q5 r5, .slice p6 q6 r6] 87)).alloc (.cells #[.slice p0 q0 r0, .int .i64 x.data.ty, .int .u32 (x.ttl : Int), .slice (some ⟨W2.heap.size, 0, none⟩) 1 1] 80)).drew w1.heap.size (.slice (some ⟨W2.heap.size, 0, none⟩) 1 1) [[.int .i64 x.data.ty, .slice p3 q3 r3, .slice p4 q4 r4, .slice p5 q5 r5, .slice p6 q6 r6]] from OwnK.weaken (OwnK.alloc ho1 _) hsz)
     have HN4 := qH0 (show RSet w0 ((W2.alloc (.cells #[.int .i64 x.data.ty, .slice p3 q3 r3, .slice p4 q4 r4, .slice p5 q5 r5, .slice p6 q6 r6] 87)).alloc (.cells #[.slice p0 q0 r0, .int .i64 x.data.ty, .int .u32 (x.ttl : Int), .slice (some ⟨W2.heap.size, 0, none⟩) 1 1] 80)).drew w1.heap.size [.slice p0 q0 r0, .int .i64 x.data.ty, .int .u32 (x.ttl : Int), .slice (some ⟨W2.heap.size, 0, none⟩) 1 1] (newS x) from ⟨(p0, q0, r0), (some ⟨W2.heap.size, 0, none⟩, 1, 1), [[.int .i64 x.data.ty, .slice p3 q3 r3, .slice p4 q4 r4, .slice p5 q5 r5, .slice p6 q6 r6]], rfl, HNO.out, HO1.out, (Dts.nil w0).snoc rfl HDA.out⟩)
     have H11 := qH0 (qah (((W2.alloc (.cells #[.int .i64 x.data.ty, .slice p3 q3 r3, .slice p4 q4 r4, .slice p5 q5 r5, .slice p6 q6 r6] 87)).alloc (.cells #[.slice p0 q0 r0, .int .i64 x.data.ty, .int .u32 (x.ttl : Int), .slice (some ⟨W2.heap.size, 0, none⟩) 1 1] 80)).drew) (.tmp 85) (.tmp 109) qdt (by decide) w1.heap.size (.slice (some ⟨g, 0, none⟩) m gc) (css) (HOS.out) (.slice (some ⟨W2.heap.size + 1, 0, none⟩) 1 1) ([[.slice p0 q0 r0, .int .i64 x.data.ty, .int .u32 (x.ttl : Int), .slice (some ⟨W2.heap.size, 0, none⟩) 1 1]]) (qay (css := [[.slice p0 q0 r0, .int .i64 x.data.ty, .int .u32 (x.ttl : Int), .slice (some ⟨W2.heap.size, 0, none⟩) 1 1]]) HKB.out) (lenS _ _ _ _) (one4 rfl rfl rfl rfl) (HWS.out.size) (by have := HL.out; have := HNK.out; unfold maxLen; simp only [List.length_cons, List.length_nil]; omega) (by have := HL.out; have := HNK.out; simp only [List.length_cons, List.length_nil]; omega))
     clear hbd hbA hbB hkB ho1 hsz c0 c1 c2 c3 c4 c5 c6 d0 d1 d2 d3 d4 d5 d6
     have KC := qH0 (fun W (hb : Below w1.heap.size w1 W) => (show (W.cell? ⟨b, off + i * 7, none⟩ = some (.slice p0 q0 r0) ∧ W.cell? ⟨b, off + i * 7 + 1, none⟩ = some (.int .u32 (x.ttl : Int)) ∧ W.cell? ⟨b, off + i * 7 + 2, none⟩ = some (.int .i64 x.data.ty) ∧ W.cell? ⟨b, off + i * 7 + 3, none⟩ = some (.slice p3 q3 r3) ∧ W.cell? ⟨b, off + i * 7 + 4, none⟩ = some (.slice p4 q4 r4) ∧ W.cell? ⟨b, off + i * 7 + 5, none⟩ = some (.slice p5 q5 r5) ∧ W.cell? ⟨b, off + i * 7 + 6, none⟩ = some (.slice p6 q6 r6) ∧ Below w1.heap.size w1 W) from by
      obtain ⟨k0, k1, k2, k3, k4, k5, k6⟩ := HE.out W hb
      exact ⟨k0, k1, k2, k3, k4, k5, k6, hb⟩))
     have KR := qH0 (fun W (h : (W.cell? ⟨b, off + i * 7, none⟩ = some (.slice p0 q0 r0) ∧ W.cell? ⟨b, off + i * 7 + 1, none⟩ = some (.int .u32 (x.ttl : Int)) ∧ W.cell? ⟨b, off + i * 7 + 2, none⟩ = some (.int .i64 x.data.ty) ∧ W.cell? ⟨b, off + i * 7 + 3, none⟩ = some (.slice p3 q3 r3) ∧ W.cell? ⟨b, off + i * 7 + 4, none⟩ = some (.slice p4 q4 r4) ∧ W.cell? ⟨b, off + i * 7 + 5, none⟩ = some (.slice p5 q5 r5) ∧ W.cell? ⟨b, off + i * 7 + 6, none⟩ = some (.slice p6 q6 r6) ∧ Below w1.heap.size w1 W)) => KC.out W.drew (h.2.2.2.2.2.2.2.trans ⟨rfl, rfl, rfl, qN0, fun _ _ => rfl⟩))
     have KA := qH0 (fun W o (h : (W.cell? ⟨b, off + i * 7, none⟩ = some (.slice p0 q0 r0) ∧ W.cell? ⟨b, off + i * 7 + 1, none⟩ = some (.int .u32 (x.ttl : Int)) ∧ W.cell? ⟨b, off + i * 7 + 2, none⟩ = some (.int .i64 x.data.ty) ∧ W.cell? ⟨b, off + i * 7 + 3, none⟩ = some (.slice p3 q3 r3) ∧ W.cell? ⟨b, off + i * 7 + 4, none⟩ = some (.slice p4 q4 r4) ∧ W.cell? ⟨b, off + i * 7 + 5, none⟩ = some (.slice p5 q5 r5) ∧ W.cell? ⟨b, off + i * 7 + 6, none⟩ = some (.slice p6 q6 r6) ∧ Below w1.heap.size w1 W)) => KC.out (W.alloc o) (h.2.2.2.2.2.2.2.alloc h.2.2.2.2.2.2.2.size o))
     have hS0 := KC.out W2 HB2.out
     go_wp2_with fail
     go_region_held3 (fun W => W.cell? ⟨b, off + i * 7, none⟩ = some (.slice p0 q0 r0) ∧ W.cell? ⟨b, off + i * 7 + 1, none⟩ = some (.int .u32 (x.ttl : Int)) ∧ W.cell? ⟨b, off + i * 7 + 2, none⟩ = some (.int .i64 x.data.ty) ∧ W.cell? ⟨b, off + i * 7 + 3, none⟩ = some (.slice p3 q3 r3) ∧ W.cell? ⟨b, off + i * 7 + 4, none⟩ = some (.slice p4 q4 r4) ∧ W.cell? ⟨b, off + i * 7 + 5, none⟩ = some (.slice p5 q5 r5) ∧ W.cell? ⟨b, off + i * 7 + 6, none⟩ = some (.slice p6 q6 r6) ∧ Below w1.heap.size w1 W)
      (first | with_reducible assumption | (with_reducible exact KR.out _ (by with_reducible assumption)) | (with_reducible exact KA.out _ _ (by with_reducible assumption)) | (with_reducible exact KR.out _ (KA.out _ _ (by with_reducible assumption))) | (with_reducible exact KA.out _ _ (KR.out _ (by with_reducible assumption))) | (with_reducible exact KR.out _ (KA.out _ _ (KA.out _ _ (by with_reducible assumption)))))
      (first | ((with_reducible refine H11.out _ _ _ _ _ _ ?_ ?_ ?_ ?_ ?_); exact rfl; exact rfl; exact rfl; exact rfl; intro v8 w8 ho8 hg8; have hb8 := HWS.out.grown hg8 HWS.out.size (OwnK.base_le HOS.out); have hS2 := KC.out w8 hb8; have HO8 := qH0 ho8; have HG8 := qH0 hg8; clear ho8 hg8))
     all_goals
      have HN8 := qH0 ((HSS.out.grown HOS.out HG8.out).snoc (HN4.out.grown HOS.out HG8.out))
      have HB8 := qH0 (HWS.out.grown HG8.out HWS.out.size (OwnK.base_le HOS.out))
      obtain ⟨a8, c8, e8⟩ := OwnK.shape HO8.out
      have hl8 : (css ++ ([[.slice p0 q0 r0, .int .i64 x.data.ty, .int .u32 (x.ttl : Int), .slice (some ⟨W2.heap.size, 0, none⟩) 1 1]] : List (List Value))).length = m + 1 := by rw [List.length_append, HL.out]; rfl
      rw [hl8] at e8
      subst e8
      clear HG8 hS0 hS2
      go_wp2_with fail
      go_roundg (n - (i + 1))
      case measure => omega
      case rel => exact ⟨i + 1, m + 1, a8, c8, _, rfl, by go_num, by omega, by omega, by omega, qH0 hl8, HO8, qH0 (by rw [HST.out]; exact HN8.out), HB8⟩
  ·obtain rfl : i = n := by omega
   have hsf := HS.out
   rw [List.take_of_length_le (by have := HLC.out; omega), qeD] at hsf
   have HRS := qH0 (fun (W' : World) (hf : FarKeep w.heap.size wr W') => (hsf.move (fun g q1 q2 => hf g (Nat.le_trans HB1.out.size q1) q2)).rowP (OwnK.move HO.out (fun g q1 q2 => hf g (Nat.le_trans HB1.out.size q1) q2)))
   have HSF := qH0 hsf.1
   have HF := qH0 (qB0 HB1.out HB.out)
   clear hsf
   go_wp2
   go_ret
   exact ⟨_, _, rfl, HSF.out, HRS.out, HF.out⟩
theorem qdJ {fn : Func} {t u : Tmp} (h : fn.results = #[.cell t 80, .tmp u]) (tmps : Array Value) (W : World) {a : Nat} {x0 x1 x2 x3 v : Value}
 (ht : tmps.getD t undef = .pointer (some ⟨a, 0, none⟩)) (hu : tmps.getD u undef = v) (hb : W.heap[a]? = some (.cells #[x0, x1, x2, x3] 80)) :
 (results fn tmps).run Tryz.prog W = .ok (.tuple #[.agg #[x0, x1, x2, x3], v]) W := by
 have ht' : tmps[t]?.getD undef = .pointer (some ⟨a, 0, none⟩) := by rw [← ht]; simp
 have hv' : tmps[u]?.getD undef = v := by rw [← hu]; simp
 have hA : ∀ w, Sem.run Tryz.prog (underlying 80) w = .ok _ w := run_underlying Tryz.underlying80
 have c0 := kcell hb 0 _ rfl; have c1 := kcell hb 1 _ rfl; have c2 := kcell hb 2 _ rfl; have c3 := kcell hb 3 _ rfl
 simp [results, h, ht', hv', loadVar, asAddr, go_sem, hA, c0, c1, c2, c3, isAgg]
def put4s (W : World) (B : Nat) (v0 v1 v2 v3 : Value) : World := (((W.setCell ⟨B, 0, none⟩ v0).setCell ⟨B, 1, none⟩ v1).setCell ⟨B, 2, none⟩ v2).setCell ⟨B, 3, none⟩ v3
theorem qfO {W : World} {B : Nat} {z0 z1 z2 z3 : Value} {T : TypeId} (h : W.heap[B]? = some (.cells #[z0, z1, z2, z3] T)) (v0 v1 v2 v3 : Value) : (put4s W B v0 v1 v2 v3).heap[B]? = some (.cells #[v0, v1, v2, v3] T) := by
 have q0 := kset h 0 v0
 have q1 := kset q0 1 v1
 have q2 := kset q1 2 v2
 exact kset q2 3 v3
theorem qhH (W : World) (B : Nat) (v0 v1 v2 v3 : Value) : W.grownBy (put4s W B v0 v1 v2 v3) (some B) :=
 qat (qat (qat (qaf W B 0 v0) (qaf _ B 1 v1)) (qaf _ B 2 v2)) (qaf _ B 3 v3)
theorem qja {n : Nat} (W : World) {B : Nat} (hB : B < n) (v0 v1 v2 v3 : Value) : FarKeep n W (put4s W B v0 v1 v2 v3) := fun i h1 h2 => (qhH W B v0 v1 v2 v3).block i h2 (fun e => by injection e; omega)
theorem qed {n : Nat} {w W : World} (h : Below n w W) {B : Nat} (hB : n ≤ B) (v0 v1 v2 v3 : Value) : Below n w (put4s W B v0 v1 v2 v3) :=
 (((h.setCell (p := ⟨B, 0, none⟩) hB _).setCell (p := ⟨B, 1, none⟩) hB _).setCell (p := ⟨B, 2, none⟩) hB _).setCell (p := ⟨B, 3, none⟩) hB _
theorem qib {α : Type} {p : α → Bool} {l : List α} {k : Nat} (h : k < l.length) (hn : ∀ j (hj : j < l.length), j < k → p l[j] = false) : l.find? p = if p l[k] = true then some l[k] else (l.drop (k + 1)).find? p := by
 have e : l = l.take k ++ l[k] :: l.drop (k + 1) := by rw [← List.drop_eq_getElem_cons h, List.take_append_drop]
 have e1 : (l.take k).find? p = none := by
  rw [List.find?_eq_none]
  intro x hx
  obtain ⟨j, hj, rfl⟩ := List.mem_iff_getElem.1 hx
  rw [List.length_take] at hj
  rw [List.getElem_take, hn j (by omega) (by omega)]; simp
 conv => lhs; rw [e, List.find?_append, e1, Option.none_or, List.find?_cons]
 cases p l[k] <;> simp
theorem qb5 : ∀ (n : Nat) (c : List Rc), c.length ≤ n → (setsM c).length ≤ c.length
 | 0, c, h => by
  obtain rfl : c = [] := List.eq_nil_of_length_eq_zero (by omega)
  rw [qa3]; exact qN0
 | n + 1, [], h => by rw [qa3]; exact qN0
 | n + 1, y :: r, h => by
  have hl : (r.dropWhile (belR y)).length ≤ r.length := (List.dropWhile_sublist _).length_le
  rw [qaM, List.length_cons, List.length_cons]
  have := qb5 n (r.dropWhile (belR y)) (by simp at h; omega)
  omega
end Go.Proofs.YtnpnfajgphpabaaGreat
namespace Go.Proofs.YtnpnfajgphpabaaGreat
set_option maxRecDepth 100000
set_option maxHeartbeats 16000000
open Go.RowKit Go.Shelf
theorem RowS.vals {W : World} {a : Option Addr} {n c : Nat} {l : List St} (h : RowS W (.slice a n c) l) : ∃ (b off : Nat) (G : Fin l.length → SV), (l.length = 0 ∨ a = some ⟨b, off, none⟩) ∧ b < W.heap.size + 1 ∧ n = l.length ∧ (∀ W', Below W.heap.size W W' → EAt W' b off G) ∧
 ∀ x : Fin l.length, (G x).2.1 = l[x].ty ∧ (G x).2.2.2.2.1 = l[x].data.length ∧ SetR W [.slice (G x).1.1 (G x).1.2.1 (G x).1.2.2, .int .i64 (G x).2.1, .int .u32 (G x).2.2.1, .slice (G x).2.2.2.1 (G x).2.2.2.2.1 (G x).2.2.2.2.2] l[x] := by
 have hn : n = l.length := by obtain ⟨a', c', e⟩ := h.shape; injection e
 by_cases h0 : 0 < l.length
 ·obtain ⟨b, off, e, hb, hel⟩ := h.elem h0
  have hc : ∀ x : Fin l.length, ∃ v : SV, v.2.1 = l[x].ty ∧ v.2.2.2.2.1 = l[x].data.length ∧ SetR W [.slice v.1.1 v.1.2.1 v.1.2.2, .int .i64 v.2.1, .int .u32 v.2.2.1, .slice v.2.2.2.1 v.2.2.2.2.1 v.2.2.2.2.2] l[x] ∧
   ∀ W', Below W.heap.size W W' → W'.cell? ⟨b, off + x.val * 4, none⟩ = some (.slice v.1.1 v.1.2.1 v.1.2.2) ∧ W'.cell? ⟨b, off + x.val * 4 + 1, none⟩ = some (.int .i64 v.2.1) ∧ W'.cell? ⟨b, off + x.val * 4 + 2, none⟩ = some (.int .u32 v.2.2.1) ∧ W'.cell? ⟨b, off + x.val * 4 + 3, none⟩ = some (.slice v.2.2.2.1 v.2.2.2.2.1 v.2.2.2.2.2) := fun x => by
   obtain ⟨x0, x3, q1, q2⟩ := hel x.val x.isLt
   exact ⟨(x0, l[x].ty, (l[x].ttl : Int), (x3.1, l[x].data.length, x3.2.2)), rfl, rfl, q1, q2⟩
  refine ⟨b, off, fun x => Classical.choose (hc x), .inr e, by omega, hn, fun W' hB x => (Classical.choose_spec (hc x)).2.2.2 W' hB, fun x => ?_⟩
  have := Classical.choose_spec (hc x)
  exact ⟨this.1, this.2.1, this.2.2.1⟩
 ·have hz : l.length = 0 := by omega
  refine ⟨0, 0, fun x => absurd x.isLt (by omega), .inl hz, by omega, hn, fun W' _ x => absurd x.isLt (by omega), fun x => absurd x.isLt (by omega)⟩
theorem SetR.own {W : World} {p0 q0 k0 p3 q3 k3} {y t : Int} {s : St} (h : SetR W [.slice p0 q0 k0, .int .i64 y, .int .u32 t, .slice p3 q3 k3] s) : NmAt W (.slice p0 q0 k0) s.owner ∧ y = s.ty ∧ q3 = s.data.length := by
 obtain ⟨z0, z3, ds, e, q1, q2, q3', q4⟩ := h
 simp only [List.cons.injEq, and_true] at e
 obtain ⟨e0, e1, _, e3⟩ := e
 rw [e0]
 injection e1 with _ e1
 obtain ⟨_, _, e4, _⟩ := id q2
 injection e3 with _ e3 _
 injection e4 with _ e4 _
 exact ⟨q1, e1, by rw [e3, e4, q3']⟩
def oneT (s o : St) : Bool := decide (¬ o.ty = s.ty) && sameN o.owner s.owner
def OthX (w : World) (b4 : Nat) (ss : List St) (s : St) (c : Code) (pre : List (Fin ss.length)) (W : World) : Prop :=
 c = .ret ∧ ∃ p x, pre = p ++ [x] ∧ oneT s ss[x] = true ∧ Boxed W b4 4 (.bool true) ∧ Below w.heap.size w W
theorem qkh {w W2 : World} {b4 : Nat} {ss : List St} {s : St} (c : Code) (h1 : b4 < W2.heap.size) (hw : w.heap.size ≤ W2.heap.size) : OwnFrom W2.heap.size (OthX w b4 ss s c) := by
 rintro pre W W' row ⟨k1, p, x, k2, k3, k4, k5⟩ hg hr
 exact ⟨k1, p, x, k2, k3, k4.kept hg (fun e => by have := (hr b4 e.symm).1; omega), k5.grown hg k5.size (fun r e => by have := (hr r e).1; omega)⟩
section
attribute [local go_sem] Oper.semAt_some
theorem qgd (sa : Option Addr) (sn sc : Nat) (ov rv cv : Value) (ss : List St) (p0 : Option Addr) (q0 k0 : Nat) (ty tl : Int) (p3 : Option Addr) (q3 k3 : Nat) (s : St) (w : World) (hone : ov.oneCell' = true ∧ rv.oneCell' = true ∧ cv.oneCell' = true) (hS : RowS w (.slice sa sn sc) ss) (hOK : ∀ o ∈ ss, NmOK o.owner) (hl : ss.length ≤ 1048576) (hs : SetR w [.slice p0 q0 k0, .int .i64 ty, .int .u32 tl, .slice p3 q3 k3] s) (hko : NmOK s.owner) :
 Calls Tryz.prog 50 #[.agg #[.slice sa sn sc, ov, rv, cv], .agg #[.slice p0 q0 k0, .int .i64 ty, .int .u32 tl, .slice p3 q3 k3]] w fun e w' => e = .returned (.bool (otherM ss s)) ∧ Below w.heap.size w w' := by
 obtain ⟨b, off, G, ha, hbl, hn, hG, hGS⟩ := hS.vals
 subst hn
 obtain ⟨hown, hty, -⟩ := hs.own
 subst hty
 have HN := qH0 (fun (x : Fin ss.length) (W : World) (hb : Below w.heap.size w W) => qbW (.slice (G x).1.1 (G x).1.2.1 (G x).1.2.2) (.slice p0 q0 k0) ss[x].owner s.owner _ rfl W (((hGS x).2.2.own.1).below hb) (hown.below hb) (hOK _ (List.getElem_mem _)) hko)
 have HGT := qH0 (fun x => (hGS x).1)
 obtain ⟨h1o, h2o, h3o⟩ := hone
 have HA := qH0 ha; have HG := qH0 hG; have HBL := qH0 hbl
 have HRS := qH0 (show otherM ss s = ss.any (oneT s) from rfl)
 generalize otherM ss s = res at *
 obtain ⟨ty, hty⟩ : ∃ y, s.ty = y := ⟨_, rfl⟩
 rw [hty]
 have HTY := qH0 hty
 clear hty
 clear ha hG hGS hbl hs hown hS hOK hko
 obtain ⟨W0, hW0⟩ : ∃ W0, ((w.alloc (.cells #[.slice sa ss.length sc, ov, rv, cv] 60)).alloc (.cells #[.slice p0 q0 k0, .int .i64 ty, .int .u32 tl, .slice p3 q3 k3] 67)).alloc (.cells #[.bool false] 4) = W0 := ⟨_, rfl⟩
 have HB0 : Hid (Below w.heap.size w W0) := qH0 (by rw [← hW0]; exact (((Below.refl w.heap.size w).alloc (qN0) _).alloc (by simp) _).alloc (by simp; omega) _)
 have HZ0 : Hid (W0.heap.size = w.heap.size + 3) := qH0 (by rw [← hW0]; simp)
 have x0 : W0.heap[w.heap.size]? = some (.cells #[.slice sa ss.length sc, ov, rv, cv] 60) := by
  rw [← hW0]; exact (Below.heap_alloc _ _ _ (by simp; omega)).trans ((Below.heap_alloc _ _ _ (by simp)).trans (knew w _))
 have x1 : W0.heap[w.heap.size + 1]? = some (.cells #[.slice p0 q0 k0, .int .i64 ty, .int .u32 tl, .slice p3 q3 k3] 67) := by
  have h := knew (w.alloc (.cells #[.slice sa ss.length sc, ov, rv, cv] 60)) (.cells #[.slice p0 q0 k0, .int .i64 ty, .int .u32 tl, .slice p3 q3 k3] 67)
  rw [World.size_alloc] at h
  rw [← hW0]; exact (Below.heap_alloc _ _ _ (by simp)).trans h
 have x2 : Boxed W0 (w.heap.size + 1 + 1) 4 (.bool false) := by
  have h := Boxed.new ((w.alloc (.cells #[.slice sa ss.length sc, ov, rv, cv] 60)).alloc (.cells #[.slice p0 q0 k0, .int .i64 ty, .int .u32 tl, .slice p3 q3 k3] 67)) 4 (.bool false)
  rw [World.size_alloc, World.size_alloc] at h
  rw [← hW0]; exact h
 have X0 := qH0 x0; have X1 := qH0 x1; have X2 := qH0 x2
 have y0 := kcell x0 0 _ rfl
 clear x0 x1 x2
 refine (callsIn_wide (n := 8)).1 ?_
 refine callsIn_of_wp_marks Tryz.func50 rfl trivial ?_ rfl
 simp only [Tryz.ntmps50, List.size_toArray, List.length_cons, List.length_nil, Nat.reduceAdd, Nat.reduceSub, Array.replicate_succ, Array.replicate_zero, List.push_toArray, List.append_toArray, List.nil_append, List.cons_append]
 refine wpIn_wide.2 ?_
 go_wp2_with fail
 clear hW0
 refine (qc2 _ _ rfl).mono ?_
 rintro e w' ⟨rfl, rfl⟩
 obtain ⟨W2, hW2⟩ : ∃ W2, W0.alloc (.cells #[.slice sa ss.length sc] 58) = W2 := ⟨_, rfl⟩
 have hB2 : Below W0.heap.size W0 W2 := by rw [← hW2]; exact (Below.refl W0.heap.size W0).alloc (qN0) _
 have HWW := qH0 (qB0 HB0.out hB2)
 have HZ2 : Hid (W2.heap.size = w.heap.size + 4) := qH0 (by rw [← hW2, World.size_alloc, HZ0.out])
 have hxe : W2.cell? ⟨W0.heap.size, 0, none⟩ = some (.slice sa ss.length sc) := by rw [← hW2]; exact kcell (knew W0 _) 0 _ rfl
 have X1b := qH0 ((hB2.block _ (qaa X1.out)).trans X1.out)
 have X2b : Hid (Boxed W2 (w.heap.size + 1 + 1) 4 (.bool false)) := qH0 ((hB2.block _ X2.out.lt).trans X2.out)
 have HXE := qH0 hxe
 clear hB2 hxe X1 X2 X0 y0
 go_wp2_with fail
 refine (wpIn_wide (n := 8)).1 ?_
 clear hW2
 refine wpIn_rangeFunc_ownH rfl (by omega) (gf := 49) (lb := #[.pointer (some ⟨W0.heap.size, 0, none⟩)]) rfl trivial (enters_of Tryz.func49 (by kernel_rfl) rfl)
  (qcW _ (by omega) W0.heap.size sa b off ss.length sc G HA.out hl W2 (by rw [HZ2.out, HZ0.out]; omega) HXE.out (fun W hW => HG.out W (qB0 HWW.out hW))) qdP
  (qci (by have := HBL.out; rw [HZ2.out]; omega)) (qL0) (fun _ => rfl)
  (fun pre W => Below W2.heap.size W2 W ∧ ∀ x ∈ pre, oneT s ss[x] = false)
  (OthX w (w.heap.size + 1 + 1) ss s)
  (OwnFrom.and (ownFrom_below (qN0) (qN0)) (ownFrom_pure _ _))
  (fun k => qkh k (by have := HZ2.out; omega) (by have := HZ2.out; omega))
  ⟨qL0, by simp⟩
  (fun x a' W => ∃ B5, a' = { tmps := #[.agg #[.slice sa ss.length sc, ov, rv, cv], .agg #[.slice p0 q0 k0, .int .i64 ty, .int .u32 tl, .slice p3 q3 k3], .pointer (some ⟨w.heap.size, 0, none⟩), .pointer (some ⟨w.heap.size + 1, 0, none⟩), .pointer (some ⟨w.heap.size + 1 + 1, 0, none⟩), .pointer (some ⟨B5, 0, none⟩), .pointer (some ⟨w.heap.size, 0, none⟩), .slice sa ss.length sc, .func (.func 49) #[] #[.pointer (some ⟨W0.heap.size, 0, none⟩)], .agg #[.slice (G x).1.1 (G x).1.2.1 (G x).1.2.2, .int .i64 (G x).2.1, .int .u32 (G x).2.2.1, .slice (G x).2.2.2.1 (G x).2.2.2.2.1 (G x).2.2.2.2.2], undef, undef, undef, undef, undef, undef, undef, undef, undef, undef, undef, undef], defers := [] } ∧ W2.heap.size ≤ B5 ∧ W.heap[B5]? = some (.cells #[.slice (G x).1.1 (G x).1.2.1 (G x).1.2.2, .int .i64 (G x).2.1, .int .u32 (G x).2.2.1, .slice (G x).2.2.2.1 (G x).2.2.2.2.1 (G x).2.2.2.2.2] 67)) (fun x a' u W W' row ⟨B5, ha, hb, hx⟩ hg hr => ⟨B5, ha, hb, (hg.block B5 (qaa hx) (fun e => by obtain ⟨_, o, ho, hcell⟩ := hr B5 e.symm; rw [hx] at ho; cases ho; cases hcell)).trans hx⟩) ?assign ?body ?done ?stop
 case assign =>
  intro l pre x W K hi hK
  have hbA : ∀ o, Below W.heap.size W (W.alloc o) := fun o => (Below.refl _ W).alloc (qN0) o
  have hbw : b < W.heap.size := by have h1 := hi.1.size; have := HBL.out; rw [HZ2.out] at h1; omega
  unfold eV
  gi_wp2
  exact hK _ _ ((KeepsOthers.of_below (hbA _)).from _) (KeepB.alloc W _ hbw) ⟨hi.1.alloc hi.1.size _, hi.2⟩ ⟨W.heap.size, rfl, hi.1.size, knew W _⟩
 case body =>
  rintro l pre x a' W hl2 hlp ⟨hB, hno⟩ ⟨B5, rfl, hB5, hx5⟩ hlt
  have hww : Below w.heap.size w W := qB0 HWW.out hB
  have hn5 : Below w.heap.size w W := hww
  have hgt := HGT.out x
  have x3 := (hB.block _ (qaa X1b.out)).trans X1b.out
  have x4 : Boxed W (w.heap.size + 1 + 1) 4 (.bool false) := (hB.block _ X2b.out.lt).trans X2b.out
  have hcn := HN.out x W hww
  have HBW : Hid (b < W.heap.size) := qH0 (by have h1 := hB.size; have := HBL.out; rw [HZ2.out] at h1; omega)
  have hone : oneT s ss[x] = (decide (¬ (G x).2.1 = ty) && sameN ss[x].owner s.owner) := by unfold oneT; rw [hgt]; exact congrArg (fun z => decide (¬ ss[x].ty = z) && sameN ss[x].owner s.owner) HTY.out
  have y0 := kcell hx5 0 _ rfl; have y1 := kcell hx5 1 _ rfl
  have z0 := kcell x3 0 _ rfl; have z1 := kcell x3 1 _ rfl
  have f4 := x4.frozen; have c4 := x4.cell
  have HONE := qH0 hone; have HNO := qH0 hno; have HBB := qH0 hB; have HW := qH0 hww; have HX4 := qH0 x4
  generalize (G x).1.1 = g0 at *
  generalize (G x).1.2.1 = g1 at *
  generalize (G x).1.2.2 = g2 at *
  generalize (G x).2.1 = tx at *
  generalize sameN ss[x].owner s.owner = sm at *
  clear hone hno hB hww hn5 hgt x3 x4 hlp hlt hB5 hx5
  by_cases ht : tx = ty
  ·have htb : (!(tx == ty)) = false := by simp [ht]
   have HF : Hid (oneT s ss[x] = false) := qH0 (by rw [HONE.out, ht]; simp)
   subst ht
   clear htb hcn HONE
   gi_wp2
   refine ⟨trivial, ?_⟩
   gi_wp2
   refine ⟨(KeepsOthers.refl _).from _, KeepB.refl _ _, HBB.out, fun y hy => ?_⟩
   rcases List.mem_append.1 hy with hy | hy
   ·exact HNO.out y hy
   ·obtain rfl := List.mem_singleton.1 hy; exact HF.out
  ·have htb : (tx == ty) = false := by simpa using ht
   have htn : (tx != ty) = true := by simpa using ht
   have htd : (!(tx == ty)) = true := by simp [htb]
   have HT : Hid (oneT s ss[x] = sm) := qH0 (by rw [HONE.out, decide_eq_true ht, Bool.true_and])
   clear ht HONE
   cases sm with
   | false =>
    gi_wp2_with (refine ⟨trivial, ?_⟩; gi_at_call 12; refine (CallsIn.inRound l (callsIn_wide.2 hcn)).mono ?_; rintro e w9 ⟨rfl, hb9⟩)
    refine ⟨(KeepsOthers.of_below hb9).from _, hb9.block b HBW.out, qB0 HBB.out hb9, fun y hy => ?_⟩
    rcases List.mem_append.1 hy with hy | hy
    ·exact HNO.out y hy
    ·obtain rfl := List.mem_singleton.1 hy; exact HT.out
   | true =>
    gi_wp2_with (refine ⟨trivial, ?_⟩; gi_at_call 12; refine (CallsIn.inRound l (callsIn_wide.2 hcn)).mono ?_; rintro e w9 ⟨rfl, hb9⟩; have e1 : Boxed w9 (w.heap.size + 1 + 1) 4 (.bool false) := (hb9.block _ HX4.out.lt).trans HX4.out; have q1 := e1.cell; have q2 := e1.frozen; have E1 := qH0 e1; clear e1)
    exact ⟨((KeepsOthers.of_below hb9).trans (KeepsOthers.setCell _ _ _)).from _, rfl, pre, x, rfl, HT.out, E1.out.set _, (qB0 HW.out hb9).setCell (p := ⟨w.heap.size + 1 + 1, 0, none⟩) (by simp; omega) _⟩
 case done =>
  rintro D xs W hD rfl ⟨hB, hno⟩ hK
  have H1 : Hid (res = false) := qH0 (by
   rw [HRS.out, List.any_eq_false]
   intro z hz
   obtain ⟨i, hi, rfl⟩ := List.mem_iff_getElem.1 hz
   have := hno ⟨i, hi⟩ (List.mem_finRange _)
   simpa using this)
  have c2 : Boxed W (w.heap.size + 1 + 1) 4 (.bool false) := (hB.block _ X2b.out.lt).trans X2b.out
  have q1 := c2.cell; have q2 := c2.frozen
  have hww : Below w.heap.size w W := qB0 HWW.out hB
  have HC2 := qH0 c2; have HW := qH0 hww; have HKD := qH0 hK
  have hd2 : D ≠ w.heap.size + 1 + 1 := by have := HZ2.out; omega
  have hd3 : w.heap.size ≤ D := by have := HZ2.out; omega
  clear hB hno c2 hww hK
  go_wp2
  refine ⟨by simp, .inl ⟨_, _, rfl, run_takeDeferred (qaw HKD.out hd2 _), ?_⟩⟩
  refine ⟨_, qaP rfl Tryz.underlying4 _ _ rfl (qaq (HC2.out.set _) hd2.symm _), ?_⟩
  rw [H1.out]
  exact ⟨rfl, qal (HW.out.setCell (p := ⟨w.heap.size + 1 + 1, 0, none⟩) (by simp; omega) _) hd3 (qN0)⟩
 case stop =>
  rintro D k pre W hD hp ⟨rfl, p, x, rfl, hyes, c2, hww⟩ hK
  have H1 : Hid (res = true) := qH0 (by
   rw [HRS.out, List.any_eq_true]
   exact ⟨ss[x], List.getElem_mem _, hyes⟩)
  have HC2 := qH0 c2; have HW := qH0 hww; have HKD := qH0 hK
  have hd2 : D ≠ w.heap.size + 1 + 1 := by have := HZ2.out; omega
  have hd3 : w.heap.size ≤ D := by have := HZ2.out; omega
  clear hyes c2 hww hK hp
  gi_wp2
  refine ⟨by simp, .inl ⟨_, _, rfl, run_takeDeferred HKD.out, ?_⟩⟩
  refine ⟨_, qaP rfl Tryz.underlying4 _ _ rfl (qaq HC2.out hd2.symm _), ?_⟩
  rw [H1.out]
  exact ⟨rfl, qal HW.out hd3 (qN0)⟩
end
end Go.Proofs.YtnpnfajgphpabaaGreat
