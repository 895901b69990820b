/-
  ref.SameData, ref.SameDatas. (Written by wip/tools/gensetj.py.)
-/
import Derived.Test.YtfcdajldpnomfaaMQ19
import Derived.Test.YtfcdajldpnomfaaMQ08
namespace Go.Proofs.Ytfcdajldpnomfaa
set_option maxRecDepth 20000
open Go.RowKit Go.Shelf
set_option maxRecDepth 20000
set_option linter.unusedVariables false
set_option linter.unusedSimpArgs false

theorem dt_shapeV {W : World} {v : Value} {d : Dat} (h : DatAt W v d) : ∃ x3 x4 x5 x6 : Option Addr × Nat × Nat, v = .agg #[.int .i64 d.ty, .slice x3.1 x3.2.1 x3.2.2, .slice x4.1 x4.2.1 x4.2.2, .slice x5.1 x5.2.1 x5.2.2, .slice x6.1 x6.2.1 x6.2.2] := by
  obtain ⟨un, uu, ut, ur, e, h2⟩ := id h
  obtain ⟨x3, x4, x5, x6, e'⟩ := dt_shape (cs := [.int .i64 d.ty, un, uu, ut, ur]) (by subst e; exact h)
  refine ⟨x3, x4, x5, x6, ?_⟩
  rw [e, ← e']
set_option maxRecDepth 100000 in
set_option maxHeartbeats 8000000 in
theorem ref_SameData (v u : Value) (a b : Dat) (w : World) (hA : DatAt w v a) (hU : DatAt w u b) (hk : DatOK a) (hk2 : DatOK b) :
    Calls Try.prog 20 #[v, u] w fun e w' => e = .returned (.bool (compareD a b == 0)) ∧ Below w.heap.size w w' := by
  obtain ⟨x3, x4, x5, x6, e0⟩ := dt_shapeV hA
  obtain ⟨y3, y4, y5, y6, e1⟩ := dt_shapeV hU
  obtain ⟨p3, q3, r3⟩ := x3; obtain ⟨p4, q4, r4⟩ := x4; obtain ⟨p5, q5, r5⟩ := x5; obtain ⟨p6, q6, r6⟩ := x6
  obtain ⟨s3, t3, z3⟩ := y3; obtain ⟨s4, t4, z4⟩ := y4; obtain ⟨s5, t5, z5⟩ := y5; obtain ⟨s6, t6, z6⟩ := y6
  subst e0 e1
  have hb : Below w.heap.size w ((w.alloc (.cells #[.int .i64 a.ty, .slice p3 q3 r3, .slice p4 q4 r4, .slice p5 q5 r5, .slice p6 q6 r6] 34)).alloc (.cells #[.int .i64 b.ty, .slice s3 t3 z3, .slice s4 t4 z4, .slice s5 t5 z5, .slice s6 t6 z6] 34)) := ((Below.refl _ w).alloc (Nat.le_refl _) _).alloc (by simp) _
  have hc := ref_CompareData _ _ a b _ (hA.below hb) (hU.below hb) hk hk2
  have HB := Lib.hid hb
  clear hA hU hk hk2 hb
  generalize compareD a b = q at *
  generalize a.ty = ta at *
  generalize b.ty = tb at *
  go_enter Try.func20, Try.ntmps20
  go_wp2_with fail
  refine hc.mono ?_
  rintro e w1 ⟨rfl, hb1⟩
  go_wp2
  go_ret
  exact ⟨rfl, HB.out.trans (hb1.mono HB.out.size)⟩
set_option maxRecDepth 100000 in
set_option maxHeartbeats 8000000 in
theorem ref_SameDatas (v u : Value) (css ess : List (List Value)) (l m : List Dat) (w : World) (hA : SlK w v css) (hR : Dts w css l) (hU : SlK w u ess) (hS : Dts w ess m) (hOK : ∀ r ∈ l, DatOK r) (hOK2 : ∀ r ∈ m, DatOK r) (hl : css.length ≤ 1048576) (hl2 : ess.length ≤ 1048576) :
    Calls Try.prog 9 #[v, u] w fun e w' => e = .returned (.bool (sameDsM l m)) ∧ Below w.heap.size w w' := by
  obtain ⟨a, c, rfl, hc1, hc2, hx⟩ := id hA
  obtain ⟨b, d, rfl, hd1, hd2, hy⟩ := id hU
  obtain ⟨n, hn⟩ : ∃ n, css.length = n := ⟨_, rfl⟩
  obtain ⟨n2, hn2⟩ : ∃ n, ess.length = n := ⟨_, rfl⟩
  have HSA := Lib.hid hA; have HSU := Lib.hid hU; have HR := Lib.hid hR; have HS := Lib.hid hS; have HOK := Lib.hid hOK; have HOK2 := Lib.hid hOK2
  rw [hn] at HSA hc1 hl ⊢
  rw [hn2] at HSU hd1 hl2 ⊢
  have HN := Lib.hid hn; have HN2 := Lib.hid hn2
  have HLA := Lib.hid (show l.length = n by rw [← hn]; exact hR.1.symm)
  have HLB := Lib.hid (show m.length = n2 by rw [← hn2]; exact hS.1.symm)
  obtain ⟨res, hres⟩ : ∃ r, sameDsM l m = r := ⟨_, rfl⟩
  rw [hres]
  have HRES := Lib.hid hres
  clear hA hU hR hS hOK hOK2 hc2 hx hd2 hy hn hn2 hres
  by_cases hnn : n = n2
  · subst hnn
    have HB0 : Hid (Below w.heap.size w w) := Lib.hid (Below.refl _ _)
    go_enter Try.func9, Try.ntmps9
    go_wp2
    go_loopw [5] (fun vi wr => ∃ (k : Nat), vi = .int .i64 k ∧ k ≤ n ∧ Hid (res = sameDsM (l.drop k) (m.drop k)) ∧ Hid (Below w.heap.size w wr)) (fun vi _ => n - (intOf vi).toNat)
    case atStart => exact ⟨0, rfl, Nat.zero_le _, Lib.hid HRES.out.symm, HB0⟩
    case round =>
      obtain ⟨k, rfl, hk, HC, HB⟩ := hrel
      by_cases hlt : k < n
      · have hltz : (k : Int) < (n : Int) := by omega
        have hk1 : k < css.length := by have := HN.out; omega
        have hk2 : k < ess.length := by have := HN2.out; omega
        have hk3 : k < l.length := by have := HLA.out; omega
        have hk4 : k < m.length := by have := HLB.out; omega
        obtain ⟨ga, oa, rfl, hga, hea⟩ := HSA.out.elem5 HR.out.ck (by omega)
        obtain ⟨gb, ob, rfl, hgb, heb⟩ := HSU.out.elem5 HS.out.ck (by omega)
        have h0 := (HR.out.2 k hk1 hk3).2
        have h1 := (HS.out.2 k hk2 hk4).2
        have hok := HOK.out _ (List.getElem_mem hk3)
        have hok2 := HOK2.out _ (List.getElem_mem hk4)
        have hst := sameDsM_step k hk3 hk4
        obtain ⟨ra, hra⟩ : ∃ r, l[k]'hk3 = r := ⟨_, rfl⟩
        obtain ⟨rb, hrb⟩ : ∃ r, m[k]'hk4 = r := ⟨_, rfl⟩
        rw [hra] at h0 hok hst
        rw [hrb] at h1 hok2 hst
        clear hra hrb
        have htw := fun W (hb : Below w.heap.size w W) => ref_SameData _ _ _ _ W (h0.below hb) (h1.below hb) hok hok2
        obtain ⟨⟨p3, q3, r3⟩, ⟨p4, q4, r4⟩, ⟨p5, q5, r5⟩, ⟨p6, q6, r6⟩, e0⟩ := dt_shape h0
        obtain ⟨⟨p3', q3', r3'⟩, ⟨p4', q4', r4'⟩, ⟨p5', q5', r5'⟩, ⟨p6', q6', r6'⟩, e1⟩ := dt_shape h1
        simp only at e0 e1
        have f0 := fun p : WIn (fun W => Below w.heap.size w W) => hea k hk1 _ _ _ _ _ e0 p.w p.ok
        have f1 := fun p : WIn (fun W => Below w.heap.size w W) => heb k hk2 _ _ _ _ _ e1 p.w p.ok
        have g0 := fun p => (f0 p).1; have g1 := fun p => (f0 p).2.1; have g2 := fun p => (f0 p).2.2.1; have g3 := fun p => (f0 p).2.2.2.1; have g4 := fun p => (f0 p).2.2.2.2
        have j0 := fun p => (f1 p).1; have j1 := fun p => (f1 p).2.1; have j2 := fun p => (f1 p).2.2.1; have j3 := fun p => (f1 p).2.2.2.1; have j4 := fun p => (f1 p).2.2.2.2
        rw [e0, e1] at htw
        obtain ⟨tw, htw'⟩ : ∃ t, (compareD ra rb == 0) = t := ⟨_, rfl⟩
        rw [htw'] at htw hst
        have hcg := fun p : WIn (fun W => Below w.heap.size w W) => Calls.cls (C := fun W => Below w.heap.size w W) ((htw p.w p.ok).mono fun _ _ ⟨hq, hb⟩ => ⟨hq, p.ok.trans (hb.mono p.ok.size)⟩)
        have HC2 : Hid (res = (tw && sameDsM (l.drop (k + 1)) (m.drop (k + 1)))) := Lib.hid (by rw [HC.out, hst])
        have hne : Nonempty (WIn (fun W => Below w.heap.size w W)) := ⟨⟨_, HB.out⟩⟩
        have hbd : Below w.heap.size w wr.drew := HB.out.trans ⟨rfl, rfl, rfl, Nat.le_refl _, fun _ _ => rfl⟩
        clear h0 h1 hok hok2 htw hst e0 e1 htw' hea heb hk1 hk2 hk3 hk4 f0 f1 HC
        cases tw
        · have HE : Hid (res = false) := Lib.hid (by rw [HC2.out]; rfl)
          clear HC2
          go_wp2_with fail
          refine wp_region_cls (fun W => Below w.heap.size w W) follows_mixed (by kernel_rfl) hbd ?_
          repeat (go_big_quiet_step (exact hcg _))
          refine wpQuiet_nil ?_
          rintro _ ⟨p, rfl⟩
          have HB2 := Lib.hid p.ok
          clear g0 g1 g2 g3 g4 j0 j1 j2 j3 j4 hcg
          go_wp2
          go_ret
          exact ⟨by rw [HE.out]; rfl, HB2.out⟩
        · have HE : Hid (res = sameDsM (l.drop (k + 1)) (m.drop (k + 1))) := Lib.hid (by rw [HC2.out]; rfl)
          clear HC2
          go_wp2_with fail
          refine wp_region_cls (fun W => Below w.heap.size w W) follows_mixed (by kernel_rfl) hbd ?_
          repeat (go_big_quiet_step (exact hcg _))
          refine wpQuiet_nil ?_
          rintro _ ⟨p, rfl⟩
          have HB2 := Lib.hid p.ok
          clear g0 g1 g2 g3 g4 j0 j1 j2 j3 j4 hcg
          go_wp2
          go_roundw
          case measure => simp [intOf]; omega
          case rel => exact ⟨k + 1, by go_num, by omega, HE, HB2⟩
      · obtain rfl : k = n := by omega
        have HE : Hid (res = true) := Lib.hid (by
          rw [HC.out, List.drop_of_length_le (by have := HLA.out; omega), List.drop_of_length_le (by have := HLB.out; omega)]; rfl)
        clear HC
        go_wp2
        go_ret
        exact ⟨by rw [HE.out]; rfl, HB.out⟩
  · have hz : ¬ (n : Int) = (n2 : Int) := by omega
    have hzb : ((n : Int) != (n2 : Int)) = true := by simpa using hz
    have HE : Hid (res = false) := Lib.hid (by rw [← HRES.out]; exact sameDsM_len _ _ (by have := HLA.out; have := HLB.out; omega))
    go_enter Try.func9, Try.ntmps9
    go_wp2
    go_ret
    exact ⟨by rw [HE.out]; rfl, Below.refl _ _⟩

end Go.Proofs.Ytfcdajldpnomfaa

