/-
  NameTwo: of any two names: whether they are the same, which is below which, their order, where they meet.
-/
import Derived.Test.YtoohhoillblaoaaLawK2
import Derived.Test.YtoohhoillblaoaaNamY
namespace Go.Proofs.Ytoohhoillblaoaa
open Go.RowKit Go.Shelf

set_option maxRecDepth 100000 in
set_option maxHeartbeats 8000000 in
theorem law2_NameTwo (v0 : Value) (x0 : Nm) (v1 : Value) (x1 : Nm)  (w : World) (h0 : NmArg w v0 x0) (h1 : NmArg w v1 x1) :
    Calls Try.prog 5 #[v0, v1] w fun e w' => e = .returned (.bool true) ∧ Below w.heap.size w w' := by
  obtain ⟨k0, r0, rfl, _⟩ := id h0.1.1
  have n0 := h0.1
  obtain ⟨k1, r1, rfl, _⟩ := id h1.1.1
  have n1 := h1.1
  obtain ⟨f0, hf0⟩ : ∃ r, fewN x0 = r := ⟨_, rfl⟩
  cases f0 with
  | false =>
    go_enter Try.func5, Try.ntmps5
    have b0 := Below.refl w.heap.size w
    go_wp2_with fail
    refine (law2_known _).mono ?_
    rintro e w1 ⟨rfl, d1⟩
    have qw1 := (b0).trans (d1.mono (b0).size)
    have n0_w1 := n0.below d1
    have n1_w1 := n1.below d1
    clear b0 n0 n1 d1
    go_wp2_with fail
    refine (kn_Few _ x0 false hf0 w _ h0 n0_w1).mono ?_
    rintro e w2 ⟨rfl, d2⟩
    have qw2 := (qw1).trans (d2.mono (qw1).size)
    have n0_w2 := n0_w1.below d2
    have n1_w2 := n1_w1.below d2
    clear qw1 n0_w1 n1_w1 d2
    go_wp2_with fail
    go_ret
    exact ⟨rfl, qw2⟩
  | true =>
    obtain ⟨f1, hf1⟩ : ∃ r, fewN x1 = r := ⟨_, rfl⟩
    cases f1 with
    | false =>
      go_enter Try.func5, Try.ntmps5
      have b0 := Below.refl w.heap.size w
      go_wp2_with fail
      refine (law2_known _).mono ?_
      rintro e w1 ⟨rfl, d1⟩
      have qw1 := (b0).trans (d1.mono (b0).size)
      have n0_w1 := n0.below d1
      have n1_w1 := n1.below d1
      clear b0 n0 n1 d1
      go_wp2_with fail
      refine (kn_Few _ x0 true hf0 w _ h0 n0_w1).mono ?_
      rintro e w2 ⟨rfl, d2⟩
      have qw2 := (qw1).trans (d2.mono (qw1).size)
      have n0_w2 := n0_w1.below d2
      have n1_w2 := n1_w1.below d2
      clear qw1 n0_w1 n1_w1 d2
      go_wp2_with fail
      refine (kn_Few _ x1 false hf1 w _ h1 n1_w2).mono ?_
      rintro e w3 ⟨rfl, d3⟩
      have qw3 := (qw2).trans (d3.mono (qw2).size)
      have n0_w3 := n0_w2.below d3
      have n1_w3 := n1_w2.below d3
      clear qw2 n0_w2 n1_w2 d3
      go_wp2_with fail
      go_ret
      exact ⟨rfl, qw3⟩
    | true =>
      have g0 := fewN_ok hf0
      have g1 := fewN_ok hf1
      have HF0 := Lib.hid hf0; have HF1 := Lib.hid hf1
      have hsz := compareN_zero x0 x1
      have hsw := compareN_swap x0 x1
      have hcr := compareN_range x0 x1
      have hcl : (commonN x0 x1).length = (commonN x0 x1).length := rfl
      have hco : NmOK (commonN x0 x1) := ⟨by have := common_len x0 x1; have := (sharedR_le x0.reverse x1.reverse).1; simp at this; have := g0.1; omega, fun x hx => g0.2 x (List.mem_of_mem_drop hx)⟩
      have hpo : NmOK (parentN x0) := ⟨by unfold parentN; have := g0.1; simp; omega, fun x hx => g0.2 x (List.mem_of_mem_drop hx)⟩
      have hUa := fun W h k => kn_NUnder (.slice k0 x0.length r0) (.slice k1 x1.length r1) x0 x1 _ rfl W h k g0 g1
      have hUb := fun W h k => kn_RUnder (.slice k0 x0.length r0) (.slice k1 x1.length r1) x0 x1 _ rfl W h k g0 g1
      have hCo := fun W h k => kn_NCommon (.slice k0 x0.length r0) (.slice k1 x1.length r1) x0 x1 (commonN x0 x1) _ rfl rfl W h k g0 g1
      have hCp := fun W h k => kn_RCommon (.slice k0 x0.length r0) (.slice k1 x1.length r1) x0 x1 (commonN x0 x1) _ rfl rfl W h k g0 g1
      have hPa := fun W h => kn_NParent (.slice k0 x0.length r0) x0 (parentN x0) _ rfl rfl W h g0
      have hPb := fun W h => kn_RParent (.slice k0 x0.length r0) x0 (parentN x0) _ rfl rfl W h g0
      have hCa := fun c (hc : compareN x0 x1 = c) W h k => kn_NCompare (.slice k0 x0.length r0) (.slice k1 x1.length r1) x0 x1 c hc W h k g0 g1
      have hCb := fun c (hc : compareN x0 x1 = c) W h k => kn_RCompare (.slice k0 x0.length r0) (.slice k1 x1.length r1) x0 x1 c hc W h k g0 g1
      have hCd := fun c (hc : compareN x1 x0 = c) W h k => kn_NCompare (.slice k1 x1.length r1) (.slice k0 x0.length r0) x1 x0 c hc W h k g1 g0
      have hSa := fun b (hb : sameN x0 x1 = b) W h k => kn_NSame (.slice k0 x0.length r0) (.slice k1 x1.length r1) x0 x1 b hb W h k g0 g1
      have hSb := fun b (hb : sameN x0 x1 = b) W h k => kn_RSame (.slice k0 x0.length r0) (.slice k1 x1.length r1) x0 x1 b hb W h k g0 g1
      generalize underN x0 x1 = ub at *
      generalize commonN x0 x1 = cm at *
      generalize parentN x0 = pr at *
      clear hf0 hf1 hcl
      rcases hcr with hc | hc | hc
      · have hs : sameN x0 x1 = false := by
          rw [hc] at hsz
          cases h : sameN x0 x1 with
          | false => rfl
          | true => have := hsz.2 h; omega
        have hd : compareN x1 x0 = (1) := by simp [hsw, hc]
        have hCa := hCa _ hc
        have hCb := hCb _ hc
        have hCd := hCd _ hd
        have hSa := hSa _ hs
        have hSb := hSb _ hs
        clear hsz hsw hc hs hd
        go_enter Try.func5, Try.ntmps5
        have b0 := Below.refl w.heap.size w
        go_wp2_with fail
        refine (law2_known _).mono ?_
        rintro e w1 ⟨rfl, d1⟩
        have qw1 := (b0).trans (d1.mono (b0).size)
        have n0_w1 := n0.below d1
        have n1_w1 := n1.below d1
        clear b0 n0 n1 d1
        go_wp2_with fail
        refine (kn_Few _ x0 true HF0.out w _ h0 n0_w1).mono ?_
        rintro e w2 ⟨rfl, d2⟩
        have qw2 := (qw1).trans (d2.mono (qw1).size)
        have n0_w2 := n0_w1.below d2
        have n1_w2 := n1_w1.below d2
        clear qw1 n0_w1 n1_w1 d2
        go_wp2_with fail
        refine (kn_Few _ x1 true HF1.out w _ h1 n1_w2).mono ?_
        rintro e w3 ⟨rfl, d3⟩
        have qw3 := (qw2).trans (d3.mono (qw2).size)
        have n0_w3 := n0_w2.below d3
        have n1_w3 := n1_w2.below d3
        clear qw2 n0_w2 n1_w2 d3
        go_wp2_with fail
        refine (hCb _ n0_w3 n1_w3).mono ?_
        rintro e w4 ⟨rfl, d4⟩
        have qw4 := (qw3).trans (d4.mono (qw3).size)
        have n0_w4 := n0_w3.below d4
        have n1_w4 := n1_w3.below d4
        clear qw3 n0_w3 n1_w3 d4
        go_wp2_with fail
        refine (hSa _ n0_w4 n1_w4).mono ?_
        rintro e w5 ⟨rfl, d5⟩
        have qw5 := (qw4).trans (d5.mono (qw4).size)
        have n0_w5 := n0_w4.below d5
        have n1_w5 := n1_w4.below d5
        clear qw4 n0_w4 n1_w4 d5
        go_wp2_with fail
        refine (hSb _ n0_w5 n1_w5).mono ?_
        rintro e w6 ⟨rfl, d6⟩
        have qw6 := (qw5).trans (d6.mono (qw5).size)
        have n0_w6 := n0_w5.below d6
        have n1_w6 := n1_w5.below d6
        clear qw5 n0_w5 n1_w5 d6
        go_wp2_with fail
        refine (hUa _ n0_w6 n1_w6).mono ?_
        rintro e w7 ⟨rfl, d7⟩
        have qw7 := (qw6).trans (d7.mono (qw6).size)
        have n0_w7 := n0_w6.below d7
        have n1_w7 := n1_w6.below d7
        clear qw6 n0_w6 n1_w6 d7
        go_wp2_with fail
        refine (hUb _ n0_w7 n1_w7).mono ?_
        rintro e w8 ⟨rfl, d8⟩
        have qw8 := (qw7).trans (d8.mono (qw7).size)
        have n0_w8 := n0_w7.below d8
        have n1_w8 := n1_w7.below d8
        clear qw7 n0_w7 n1_w7 d8
        go_wp2_with fail
        refine (hCa _ n0_w8 n1_w8).mono ?_
        rintro e w9 ⟨rfl, d9⟩
        have qw9 := (qw8).trans (d9.mono (qw8).size)
        have n0_w9 := n0_w8.below d9
        have n1_w9 := n1_w8.below d9
        clear qw8 n0_w8 n1_w8 d9
        go_wp2_with fail
        refine (hCd _ n1_w9 n0_w9).mono ?_
        rintro e w10 ⟨rfl, d10⟩
        have qw10 := (qw9).trans (d10.mono (qw9).size)
        have n0_w10 := n0_w9.below d10
        have n1_w10 := n1_w9.below d10
        clear qw9 n0_w9 n1_w9 d10
        go_wp2_with fail
        refine (hSa _ n0_w10 n1_w10).mono ?_
        rintro e w11 ⟨rfl, d11⟩
        have qw11 := (qw10).trans (d11.mono (qw10).size)
        have n0_w11 := n0_w10.below d11
        have n1_w11 := n1_w10.below d11
        clear qw10 n0_w10 n1_w10 d11
        go_wp2_with fail
        refine (hCo _ n0_w11 n1_w11).mono ?_
        rintro e w12 ⟨a12, c12, rfl, h12, d12⟩
        have qw12 := (qw11).trans (d12.mono (qw11).size)
        have n0_w12 := n0_w11.below d12
        have n1_w12 := n1_w11.below d12
        have ca_w12 := h12
        clear qw11 n0_w11 n1_w11 h12 d12
        go_wp2_with fail
        refine (hCp _ n0_w12 n1_w12).mono ?_
        rintro e w13 ⟨a13, c13, rfl, h13, d13⟩
        have qw13 := (qw12).trans (d13.mono (qw12).size)
        have n0_w13 := n0_w12.below d13
        have n1_w13 := n1_w12.below d13
        have ca_w13 := ca_w12.below d13
        have cb_w13 := h13
        clear qw12 n0_w12 n1_w12 ca_w12 h13 d13
        go_wp2_with fail
        refine (kn_Is _ _ cm cm true (decide_eq_true rfl) _ ca_w13 cb_w13 hco).mono ?_
        rintro e w14 ⟨rfl, d14⟩
        have qw14 := (qw13).trans (d14.mono (qw13).size)
        have n0_w14 := n0_w13.below d14
        have n1_w14 := n1_w13.below d14
        clear qw13 n0_w13 n1_w13 ca_w13 cb_w13 d14
        go_wp2_with fail
        refine (hPa _ n0_w14).mono ?_
        rintro e w15 ⟨a15, c15, rfl, h15, d15⟩
        have qw15 := (qw14).trans (d15.mono (qw14).size)
        have n0_w15 := n0_w14.below d15
        have n1_w15 := n1_w14.below d15
        have ca_w15 := h15
        clear qw14 n0_w14 n1_w14 h15 d15
        go_wp2_with fail
        refine (hPb _ n0_w15).mono ?_
        rintro e w16 ⟨a16, c16, rfl, h16, d16⟩
        have qw16 := (qw15).trans (d16.mono (qw15).size)
        have n0_w16 := n0_w15.below d16
        have n1_w16 := n1_w15.below d16
        have ca_w16 := ca_w15.below d16
        have cb_w16 := h16
        clear qw15 n0_w15 n1_w15 ca_w15 h16 d16
        go_wp2_with fail
        refine (kn_Is _ _ pr pr true (decide_eq_true rfl) _ ca_w16 cb_w16 hpo).mono ?_
        rintro e w17 ⟨rfl, d17⟩
        have qw17 := (qw16).trans (d17.mono (qw16).size)
        have n0_w17 := n0_w16.below d17
        have n1_w17 := n1_w16.below d17
        have ca_w17 := ca_w16.below d17
        have cb_w17 := cb_w16.below d17
        clear qw16 n0_w16 n1_w16 ca_w16 cb_w16 d17
        go_wp2_with fail
        go_ret
        exact ⟨rfl, qw17⟩
      · have hs : sameN x0 x1 = true := by
          rw [hc] at hsz
          exact hsz.1 rfl
        have hd : compareN x1 x0 = (0) := by simp [hsw, hc]
        have hCa := hCa _ hc
        have hCb := hCb _ hc
        have hCd := hCd _ hd
        have hSa := hSa _ hs
        have hSb := hSb _ hs
        clear hsz hsw hc hs hd
        go_enter Try.func5, Try.ntmps5
        have b0 := Below.refl w.heap.size w
        go_wp2_with fail
        refine (law2_known _).mono ?_
        rintro e w1 ⟨rfl, d1⟩
        have qw1 := (b0).trans (d1.mono (b0).size)
        have n0_w1 := n0.below d1
        have n1_w1 := n1.below d1
        clear b0 n0 n1 d1
        go_wp2_with fail
        refine (kn_Few _ x0 true HF0.out w _ h0 n0_w1).mono ?_
        rintro e w2 ⟨rfl, d2⟩
        have qw2 := (qw1).trans (d2.mono (qw1).size)
        have n0_w2 := n0_w1.below d2
        have n1_w2 := n1_w1.below d2
        clear qw1 n0_w1 n1_w1 d2
        go_wp2_with fail
        refine (kn_Few _ x1 true HF1.out w _ h1 n1_w2).mono ?_
        rintro e w3 ⟨rfl, d3⟩
        have qw3 := (qw2).trans (d3.mono (qw2).size)
        have n0_w3 := n0_w2.below d3
        have n1_w3 := n1_w2.below d3
        clear qw2 n0_w2 n1_w2 d3
        go_wp2_with fail
        refine (hCb _ n0_w3 n1_w3).mono ?_
        rintro e w4 ⟨rfl, d4⟩
        have qw4 := (qw3).trans (d4.mono (qw3).size)
        have n0_w4 := n0_w3.below d4
        have n1_w4 := n1_w3.below d4
        clear qw3 n0_w3 n1_w3 d4
        go_wp2_with fail
        refine (hSa _ n0_w4 n1_w4).mono ?_
        rintro e w5 ⟨rfl, d5⟩
        have qw5 := (qw4).trans (d5.mono (qw4).size)
        have n0_w5 := n0_w4.below d5
        have n1_w5 := n1_w4.below d5
        clear qw4 n0_w4 n1_w4 d5
        go_wp2_with fail
        refine (hSb _ n0_w5 n1_w5).mono ?_
        rintro e w6 ⟨rfl, d6⟩
        have qw6 := (qw5).trans (d6.mono (qw5).size)
        have n0_w6 := n0_w5.below d6
        have n1_w6 := n1_w5.below d6
        clear qw5 n0_w5 n1_w5 d6
        go_wp2_with fail
        refine (hUa _ n0_w6 n1_w6).mono ?_
        rintro e w7 ⟨rfl, d7⟩
        have qw7 := (qw6).trans (d7.mono (qw6).size)
        have n0_w7 := n0_w6.below d7
        have n1_w7 := n1_w6.below d7
        clear qw6 n0_w6 n1_w6 d7
        go_wp2_with fail
        refine (hUb _ n0_w7 n1_w7).mono ?_
        rintro e w8 ⟨rfl, d8⟩
        have qw8 := (qw7).trans (d8.mono (qw7).size)
        have n0_w8 := n0_w7.below d8
        have n1_w8 := n1_w7.below d8
        clear qw7 n0_w7 n1_w7 d8
        go_wp2_with fail
        refine (hCa _ n0_w8 n1_w8).mono ?_
        rintro e w9 ⟨rfl, d9⟩
        have qw9 := (qw8).trans (d9.mono (qw8).size)
        have n0_w9 := n0_w8.below d9
        have n1_w9 := n1_w8.below d9
        clear qw8 n0_w8 n1_w8 d9
        go_wp2_with fail
        refine (hCd _ n1_w9 n0_w9).mono ?_
        rintro e w10 ⟨rfl, d10⟩
        have qw10 := (qw9).trans (d10.mono (qw9).size)
        have n0_w10 := n0_w9.below d10
        have n1_w10 := n1_w9.below d10
        clear qw9 n0_w9 n1_w9 d10
        go_wp2_with fail
        refine (hSa _ n0_w10 n1_w10).mono ?_
        rintro e w11 ⟨rfl, d11⟩
        have qw11 := (qw10).trans (d11.mono (qw10).size)
        have n0_w11 := n0_w10.below d11
        have n1_w11 := n1_w10.below d11
        clear qw10 n0_w10 n1_w10 d11
        go_wp2_with fail
        refine (hCo _ n0_w11 n1_w11).mono ?_
        rintro e w12 ⟨a12, c12, rfl, h12, d12⟩
        have qw12 := (qw11).trans (d12.mono (qw11).size)
        have n0_w12 := n0_w11.below d12
        have n1_w12 := n1_w11.below d12
        have ca_w12 := h12
        clear qw11 n0_w11 n1_w11 h12 d12
        go_wp2_with fail
        refine (hCp _ n0_w12 n1_w12).mono ?_
        rintro e w13 ⟨a13, c13, rfl, h13, d13⟩
        have qw13 := (qw12).trans (d13.mono (qw12).size)
        have n0_w13 := n0_w12.below d13
        have n1_w13 := n1_w12.below d13
        have ca_w13 := ca_w12.below d13
        have cb_w13 := h13
        clear qw12 n0_w12 n1_w12 ca_w12 h13 d13
        go_wp2_with fail
        refine (kn_Is _ _ cm cm true (decide_eq_true rfl) _ ca_w13 cb_w13 hco).mono ?_
        rintro e w14 ⟨rfl, d14⟩
        have qw14 := (qw13).trans (d14.mono (qw13).size)
        have n0_w14 := n0_w13.below d14
        have n1_w14 := n1_w13.below d14
        clear qw13 n0_w13 n1_w13 ca_w13 cb_w13 d14
        go_wp2_with fail
        refine (hPa _ n0_w14).mono ?_
        rintro e w15 ⟨a15, c15, rfl, h15, d15⟩
        have qw15 := (qw14).trans (d15.mono (qw14).size)
        have n0_w15 := n0_w14.below d15
        have n1_w15 := n1_w14.below d15
        have ca_w15 := h15
        clear qw14 n0_w14 n1_w14 h15 d15
        go_wp2_with fail
        refine (hPb _ n0_w15).mono ?_
        rintro e w16 ⟨a16, c16, rfl, h16, d16⟩
        have qw16 := (qw15).trans (d16.mono (qw15).size)
        have n0_w16 := n0_w15.below d16
        have n1_w16 := n1_w15.below d16
        have ca_w16 := ca_w15.below d16
        have cb_w16 := h16
        clear qw15 n0_w15 n1_w15 ca_w15 h16 d16
        go_wp2_with fail
        refine (kn_Is _ _ pr pr true (decide_eq_true rfl) _ ca_w16 cb_w16 hpo).mono ?_
        rintro e w17 ⟨rfl, d17⟩
        have qw17 := (qw16).trans (d17.mono (qw16).size)
        have n0_w17 := n0_w16.below d17
        have n1_w17 := n1_w16.below d17
        have ca_w17 := ca_w16.below d17
        have cb_w17 := cb_w16.below d17
        clear qw16 n0_w16 n1_w16 ca_w16 cb_w16 d17
        go_wp2_with fail
        go_ret
        exact ⟨rfl, qw17⟩
      · have hs : sameN x0 x1 = false := by
          rw [hc] at hsz
          cases h : sameN x0 x1 with
          | false => rfl
          | true => have := hsz.2 h; omega
        have hd : compareN x1 x0 = (-1) := by simp [hsw, hc]
        have hCa := hCa _ hc
        have hCb := hCb _ hc
        have hCd := hCd _ hd
        have hSa := hSa _ hs
        have hSb := hSb _ hs
        clear hsz hsw hc hs hd
        go_enter Try.func5, Try.ntmps5
        have b0 := Below.refl w.heap.size w
        go_wp2_with fail
        refine (law2_known _).mono ?_
        rintro e w1 ⟨rfl, d1⟩
        have qw1 := (b0).trans (d1.mono (b0).size)
        have n0_w1 := n0.below d1
        have n1_w1 := n1.below d1
        clear b0 n0 n1 d1
        go_wp2_with fail
        refine (kn_Few _ x0 true HF0.out w _ h0 n0_w1).mono ?_
        rintro e w2 ⟨rfl, d2⟩
        have qw2 := (qw1).trans (d2.mono (qw1).size)
        have n0_w2 := n0_w1.below d2
        have n1_w2 := n1_w1.below d2
        clear qw1 n0_w1 n1_w1 d2
        go_wp2_with fail
        refine (kn_Few _ x1 true HF1.out w _ h1 n1_w2).mono ?_
        rintro e w3 ⟨rfl, d3⟩
        have qw3 := (qw2).trans (d3.mono (qw2).size)
        have n0_w3 := n0_w2.below d3
        have n1_w3 := n1_w2.below d3
        clear qw2 n0_w2 n1_w2 d3
        go_wp2_with fail
        refine (hCb _ n0_w3 n1_w3).mono ?_
        rintro e w4 ⟨rfl, d4⟩
        have qw4 := (qw3).trans (d4.mono (qw3).size)
        have n0_w4 := n0_w3.below d4
        have n1_w4 := n1_w3.below d4
        clear qw3 n0_w3 n1_w3 d4
        go_wp2_with fail
        refine (hSa _ n0_w4 n1_w4).mono ?_
        rintro e w5 ⟨rfl, d5⟩
        have qw5 := (qw4).trans (d5.mono (qw4).size)
        have n0_w5 := n0_w4.below d5
        have n1_w5 := n1_w4.below d5
        clear qw4 n0_w4 n1_w4 d5
        go_wp2_with fail
        refine (hSb _ n0_w5 n1_w5).mono ?_
        rintro e w6 ⟨rfl, d6⟩
        have qw6 := (qw5).trans (d6.mono (qw5).size)
        have n0_w6 := n0_w5.below d6
        have n1_w6 := n1_w5.below d6
        clear qw5 n0_w5 n1_w5 d6
        go_wp2_with fail
        refine (hUa _ n0_w6 n1_w6).mono ?_
        rintro e w7 ⟨rfl, d7⟩
        have qw7 := (qw6).trans (d7.mono (qw6).size)
        have n0_w7 := n0_w6.below d7
        have n1_w7 := n1_w6.below d7
        clear qw6 n0_w6 n1_w6 d7
        go_wp2_with fail
        refine (hUb _ n0_w7 n1_w7).mono ?_
        rintro e w8 ⟨rfl, d8⟩
        have qw8 := (qw7).trans (d8.mono (qw7).size)
        have n0_w8 := n0_w7.below d8
        have n1_w8 := n1_w7.below d8
        clear qw7 n0_w7 n1_w7 d8
        go_wp2_with fail
        refine (hCa _ n0_w8 n1_w8).mono ?_
        rintro e w9 ⟨rfl, d9⟩
        have qw9 := (qw8).trans (d9.mono (qw8).size)
        have n0_w9 := n0_w8.below d9
        have n1_w9 := n1_w8.below d9
        clear qw8 n0_w8 n1_w8 d9
        go_wp2_with fail
        refine (hCd _ n1_w9 n0_w9).mono ?_
        rintro e w10 ⟨rfl, d10⟩
        have qw10 := (qw9).trans (d10.mono (qw9).size)
        have n0_w10 := n0_w9.below d10
        have n1_w10 := n1_w9.below d10
        clear qw9 n0_w9 n1_w9 d10
        go_wp2_with fail
        refine (hSa _ n0_w10 n1_w10).mono ?_
        rintro e w11 ⟨rfl, d11⟩
        have qw11 := (qw10).trans (d11.mono (qw10).size)
        have n0_w11 := n0_w10.below d11
        have n1_w11 := n1_w10.below d11
        clear qw10 n0_w10 n1_w10 d11
        go_wp2_with fail
        refine (hCo _ n0_w11 n1_w11).mono ?_
        rintro e w12 ⟨a12, c12, rfl, h12, d12⟩
        have qw12 := (qw11).trans (d12.mono (qw11).size)
        have n0_w12 := n0_w11.below d12
        have n1_w12 := n1_w11.below d12
        have ca_w12 := h12
        clear qw11 n0_w11 n1_w11 h12 d12
        go_wp2_with fail
        refine (hCp _ n0_w12 n1_w12).mono ?_
        rintro e w13 ⟨a13, c13, rfl, h13, d13⟩
        have qw13 := (qw12).trans (d13.mono (qw12).size)
        have n0_w13 := n0_w12.below d13
        have n1_w13 := n1_w12.below d13
        have ca_w13 := ca_w12.below d13
        have cb_w13 := h13
        clear qw12 n0_w12 n1_w12 ca_w12 h13 d13
        go_wp2_with fail
        refine (kn_Is _ _ cm cm true (decide_eq_true rfl) _ ca_w13 cb_w13 hco).mono ?_
        rintro e w14 ⟨rfl, d14⟩
        have qw14 := (qw13).trans (d14.mono (qw13).size)
        have n0_w14 := n0_w13.below d14
        have n1_w14 := n1_w13.below d14
        clear qw13 n0_w13 n1_w13 ca_w13 cb_w13 d14
        go_wp2_with fail
        refine (hPa _ n0_w14).mono ?_
        rintro e w15 ⟨a15, c15, rfl, h15, d15⟩
        have qw15 := (qw14).trans (d15.mono (qw14).size)
        have n0_w15 := n0_w14.below d15
        have n1_w15 := n1_w14.below d15
        have ca_w15 := h15
        clear qw14 n0_w14 n1_w14 h15 d15
        go_wp2_with fail
        refine (hPb _ n0_w15).mono ?_
        rintro e w16 ⟨a16, c16, rfl, h16, d16⟩
        have qw16 := (qw15).trans (d16.mono (qw15).size)
        have n0_w16 := n0_w15.below d16
        have n1_w16 := n1_w15.below d16
        have ca_w16 := ca_w15.below d16
        have cb_w16 := h16
        clear qw15 n0_w15 n1_w15 ca_w15 h16 d16
        go_wp2_with fail
        refine (kn_Is _ _ pr pr true (decide_eq_true rfl) _ ca_w16 cb_w16 hpo).mono ?_
        rintro e w17 ⟨rfl, d17⟩
        have qw17 := (qw16).trans (d17.mono (qw16).size)
        have n0_w17 := n0_w16.below d17
        have n1_w17 := n1_w16.below d17
        have ca_w17 := ca_w16.below d17
        have cb_w17 := cb_w16.below d17
        clear qw16 n0_w16 n1_w16 ca_w16 cb_w16 d17
        go_wp2_with fail
        go_ret
        exact ⟨rfl, qw17⟩
end Go.Proofs.Ytoohhoillblaoaa
