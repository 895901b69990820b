/-
  NameOrder: names stand in one order: of three the first is ahead of the last; who is below another one is behind it.
-/
import Derived.Test.YtoohhoillblaoaaLawK2
import Derived.Test.YtoohhoillblaoaaNamY
namespace Go.Proofs.Ytoohhoillblaoaa
open Go.RowKit Go.Shelf

set_option maxRecDepth 100000 in
set_option maxHeartbeats 8000000 in
theorem law2_NameOrder (v0 : Value) (x0 : Nm) (v1 : Value) (x1 : Nm) (v2 : Value) (x2 : Nm)  (w : World) (h0 : NmArg w v0 x0) (h1 : NmArg w v1 x1) (h2 : NmArg w v2 x2) :
    Calls Try.prog 8 #[v0, v1, v2] w fun e w' => e = .returned (.bool true) ∧ Below w.heap.size w w' := by
  obtain ⟨k0, r0, rfl, _⟩ := id h0.1.1
  have n0 := h0.1
  obtain ⟨k1, r1, rfl, _⟩ := id h1.1.1
  have n1 := h1.1
  obtain ⟨k2, r2, rfl, _⟩ := id h2.1.1
  have n2 := h2.1
  obtain ⟨f0, hf0⟩ : ∃ r, fewN x0 = r := ⟨_, rfl⟩
  cases f0 with
  | false =>
    go_enter Try.func8, Try.ntmps8
    have b0 := Below.refl w.heap.size w
    go_wp2_with fail
    refine (law2_known _).mono ?_
    rintro e w1 ⟨rfl, d1⟩
    have qw1 := (b0).trans (d1.mono (b0).size)
    have n0_w1 := n0.below d1
    have n1_w1 := n1.below d1
    have n2_w1 := n2.below d1
    clear b0 n0 n1 n2 d1
    go_wp2_with fail
    refine (kn_Few _ x0 false hf0 w _ h0 n0_w1).mono ?_
    rintro e w2 ⟨rfl, d2⟩
    have qw2 := (qw1).trans (d2.mono (qw1).size)
    have n0_w2 := n0_w1.below d2
    have n1_w2 := n1_w1.below d2
    have n2_w2 := n2_w1.below d2
    clear qw1 n0_w1 n1_w1 n2_w1 d2
    go_wp2_with fail
    go_ret
    exact ⟨rfl, qw2⟩
  | true =>
    obtain ⟨f1, hf1⟩ : ∃ r, fewN x1 = r := ⟨_, rfl⟩
    cases f1 with
    | false =>
      go_enter Try.func8, Try.ntmps8
      have b0 := Below.refl w.heap.size w
      go_wp2_with fail
      refine (law2_known _).mono ?_
      rintro e w1 ⟨rfl, d1⟩
      have qw1 := (b0).trans (d1.mono (b0).size)
      have n0_w1 := n0.below d1
      have n1_w1 := n1.below d1
      have n2_w1 := n2.below d1
      clear b0 n0 n1 n2 d1
      go_wp2_with fail
      refine (kn_Few _ x0 true hf0 w _ h0 n0_w1).mono ?_
      rintro e w2 ⟨rfl, d2⟩
      have qw2 := (qw1).trans (d2.mono (qw1).size)
      have n0_w2 := n0_w1.below d2
      have n1_w2 := n1_w1.below d2
      have n2_w2 := n2_w1.below d2
      clear qw1 n0_w1 n1_w1 n2_w1 d2
      go_wp2_with fail
      refine (kn_Few _ x1 false hf1 w _ h1 n1_w2).mono ?_
      rintro e w3 ⟨rfl, d3⟩
      have qw3 := (qw2).trans (d3.mono (qw2).size)
      have n0_w3 := n0_w2.below d3
      have n1_w3 := n1_w2.below d3
      have n2_w3 := n2_w2.below d3
      clear qw2 n0_w2 n1_w2 n2_w2 d3
      go_wp2_with fail
      go_ret
      exact ⟨rfl, qw3⟩
    | true =>
      obtain ⟨f2, hf2⟩ : ∃ r, fewN x2 = r := ⟨_, rfl⟩
      cases f2 with
      | false =>
        go_enter Try.func8, Try.ntmps8
        have b0 := Below.refl w.heap.size w
        go_wp2_with fail
        refine (law2_known _).mono ?_
        rintro e w1 ⟨rfl, d1⟩
        have qw1 := (b0).trans (d1.mono (b0).size)
        have n0_w1 := n0.below d1
        have n1_w1 := n1.below d1
        have n2_w1 := n2.below d1
        clear b0 n0 n1 n2 d1
        go_wp2_with fail
        refine (kn_Few _ x0 true hf0 w _ h0 n0_w1).mono ?_
        rintro e w2 ⟨rfl, d2⟩
        have qw2 := (qw1).trans (d2.mono (qw1).size)
        have n0_w2 := n0_w1.below d2
        have n1_w2 := n1_w1.below d2
        have n2_w2 := n2_w1.below d2
        clear qw1 n0_w1 n1_w1 n2_w1 d2
        go_wp2_with fail
        refine (kn_Few _ x1 true hf1 w _ h1 n1_w2).mono ?_
        rintro e w3 ⟨rfl, d3⟩
        have qw3 := (qw2).trans (d3.mono (qw2).size)
        have n0_w3 := n0_w2.below d3
        have n1_w3 := n1_w2.below d3
        have n2_w3 := n2_w2.below d3
        clear qw2 n0_w2 n1_w2 n2_w2 d3
        go_wp2_with fail
        refine (kn_Few _ x2 false hf2 w _ h2 n2_w3).mono ?_
        rintro e w4 ⟨rfl, d4⟩
        have qw4 := (qw3).trans (d4.mono (qw3).size)
        have n0_w4 := n0_w3.below d4
        have n1_w4 := n1_w3.below d4
        have n2_w4 := n2_w3.below d4
        clear qw3 n0_w3 n1_w3 n2_w3 d4
        go_wp2_with fail
        go_ret
        exact ⟨rfl, qw4⟩
      | true =>
        have g0 := fewN_ok hf0
        have g1 := fewN_ok hf1
        have g2 := fewN_ok hf2
        have HF0 := Lib.hid hf0; have HF1 := Lib.hid hf1; have HF2 := Lib.hid hf2
        have htr := compareN_trans x0 x1 x2
        have hun := fun h => compareN_under (a := x0) (b := x1) h
        have hut := fun h k => underN_trans (a := x0) (b := x1) (c := x2) h k
        have hfo : NmOK (foldN x0) := ⟨by have := g0.1; have := foldN_len x0; omega, fun x hx => by unfold foldN at hx; obtain ⟨y, hy, rfl⟩ := List.mem_map.1 hx; rw [foldL_size]; exact g0.2 y hy⟩
        have hFo := fun W h => kn_NFold (.slice k0 x0.length r0) x0 (foldN x0) _ rfl (foldN_len x0) W h g0
        have hSm := fun W v h k => kn_NSame (.slice k0 x0.length r0) v x0 (foldN x0) true (sameN_fold x0) W h k g0 hfo
        have hUz := fun W h => kn_NUnder (.slice k0 x0.length r0) _ x0 [] true (underN_nil x0) W h (nm_nil W) g0 ⟨by decide, by decide⟩
        have hCx := fun W h k => kn_NCompare (.slice k0 x0.length r0) (.slice k1 x1.length r1) x0 x1 _ rfl W h k g0 g1
        have hCy := fun W h k => kn_NCompare (.slice k1 x1.length r1) (.slice k2 x2.length r2) x1 x2 _ rfl W h k g1 g2
        have hCz := fun W h k => kn_NCompare (.slice k0 x0.length r0) (.slice k2 x2.length r2) x0 x2 _ rfl W h k g0 g2
        have hUa := fun b (hb : underN x0 x1 = b) W h k => kn_NUnder (.slice k0 x0.length r0) (.slice k1 x1.length r1) x0 x1 b hb W h k g0 g1
        have hUb := fun b (hb : underN x1 x2 = b) W h k => kn_NUnder (.slice k1 x1.length r1) (.slice k2 x2.length r2) x1 x2 b hb W h k g1 g2
        have hUc := fun b (hb : underN x0 x2 = b) W h k => kn_NUnder (.slice k0 x0.length r0) (.slice k2 x2.length r2) x0 x2 b hb W h k g0 g2
        generalize compareN x0 x1 = x at *
        generalize compareN x1 x2 = y at *
        generalize compareN x0 x2 = z at *
        generalize foldN x0 = fo at *
        clear hf0 hf1 hf2
        obtain ⟨ua, hua⟩ : ∃ b, underN x0 x1 = b := ⟨_, rfl⟩
        obtain ⟨ub, hub⟩ : ∃ b, underN x1 x2 = b := ⟨_, rfl⟩
        have hUa := hUa _ hua
        have hUb := hUb _ hub
        by_cases hx : x ≤ 0
        · by_cases hy : y ≤ 0
          · have hz : z ≤ 0 := htr hx hy
            clear htr
            cases ua with
            | false =>
              clear hua hub hun hut hUc
              go_enter Try.func8, Try.ntmps8
              have b0 := Below.refl w.heap.size w
              go_wp2_with fail
              refine (law2_known _).mono ?_
              rintro e w1 ⟨rfl, d1⟩
              have qw1 := (b0).trans (d1.mono (b0).size)
              have n0_w1 := n0.below d1
              have n1_w1 := n1.below d1
              have n2_w1 := n2.below d1
              clear b0 n0 n1 n2 d1
              go_wp2_with fail
              refine (kn_Few _ x0 true HF0.out w _ h0 n0_w1).mono ?_
              rintro e w2 ⟨rfl, d2⟩
              have qw2 := (qw1).trans (d2.mono (qw1).size)
              have n0_w2 := n0_w1.below d2
              have n1_w2 := n1_w1.below d2
              have n2_w2 := n2_w1.below d2
              clear qw1 n0_w1 n1_w1 n2_w1 d2
              go_wp2_with fail
              refine (kn_Few _ x1 true HF1.out w _ h1 n1_w2).mono ?_
              rintro e w3 ⟨rfl, d3⟩
              have qw3 := (qw2).trans (d3.mono (qw2).size)
              have n0_w3 := n0_w2.below d3
              have n1_w3 := n1_w2.below d3
              have n2_w3 := n2_w2.below d3
              clear qw2 n0_w2 n1_w2 n2_w2 d3
              go_wp2_with fail
              refine (kn_Few _ x2 true HF2.out w _ h2 n2_w3).mono ?_
              rintro e w4 ⟨rfl, d4⟩
              have qw4 := (qw3).trans (d4.mono (qw3).size)
              have n0_w4 := n0_w3.below d4
              have n1_w4 := n1_w3.below d4
              have n2_w4 := n2_w3.below d4
              clear qw3 n0_w3 n1_w3 n2_w3 d4
              go_wp2_with fail
              refine (hCx _ n0_w4 n1_w4).mono ?_
              rintro e w5 ⟨rfl, d5⟩
              have qw5 := (qw4).trans (d5.mono (qw4).size)
              have n0_w5 := n0_w4.below d5
              have n1_w5 := n1_w4.below d5
              have n2_w5 := n2_w4.below d5
              clear qw4 n0_w4 n1_w4 n2_w4 d5
              go_wp2_with fail
              refine (hCy _ n1_w5 n2_w5).mono ?_
              rintro e w6 ⟨rfl, d6⟩
              have qw6 := (qw5).trans (d6.mono (qw5).size)
              have n0_w6 := n0_w5.below d6
              have n1_w6 := n1_w5.below d6
              have n2_w6 := n2_w5.below d6
              clear qw5 n0_w5 n1_w5 n2_w5 d6
              go_wp2_with fail
              refine (hCz _ n0_w6 n2_w6).mono ?_
              rintro e w7 ⟨rfl, d7⟩
              have qw7 := (qw6).trans (d7.mono (qw6).size)
              have n0_w7 := n0_w6.below d7
              have n1_w7 := n1_w6.below d7
              have n2_w7 := n2_w6.below d7
              clear qw6 n0_w6 n1_w6 n2_w6 d7
              go_wp2_with fail
              refine (hUa _ n0_w7 n1_w7).mono ?_
              rintro e w8 ⟨rfl, d8⟩
              have qw8 := (qw7).trans (d8.mono (qw7).size)
              have n0_w8 := n0_w7.below d8
              have n1_w8 := n1_w7.below d8
              have n2_w8 := n2_w7.below d8
              clear qw7 n0_w7 n1_w7 n2_w7 d8
              go_wp2_with fail
              refine (hUa _ n0_w8 n1_w8).mono ?_
              rintro e w9 ⟨rfl, d9⟩
              have qw9 := (qw8).trans (d9.mono (qw8).size)
              have n0_w9 := n0_w8.below d9
              have n1_w9 := n1_w8.below d9
              have n2_w9 := n2_w8.below d9
              clear qw8 n0_w8 n1_w8 n2_w8 d9
              go_wp2_with fail
              refine (hUz _ n0_w9).mono ?_
              rintro e w10 ⟨rfl, d10⟩
              have qw10 := (qw9).trans (d10.mono (qw9).size)
              have n0_w10 := n0_w9.below d10
              have n1_w10 := n1_w9.below d10
              have n2_w10 := n2_w9.below d10
              clear qw9 n0_w9 n1_w9 n2_w9 d10
              go_wp2_with fail
              refine (hFo _ n0_w10).mono ?_
              rintro e w11 ⟨a11, c11, rfl, h11, d11⟩
              have qw11 := (qw10).trans (d11.mono (qw10).size)
              have n0_w11 := n0_w10.below d11
              have n1_w11 := n1_w10.below d11
              have n2_w11 := n2_w10.below d11
              have f_w11 := h11
              clear qw10 n0_w10 n1_w10 n2_w10 h11 d11
              go_wp2_with fail
              refine (hSm _ _ n0_w11 f_w11).mono ?_
              rintro e w12 ⟨rfl, d12⟩
              have qw12 := (qw11).trans (d12.mono (qw11).size)
              have n0_w12 := n0_w11.below d12
              have n1_w12 := n1_w11.below d12
              have n2_w12 := n2_w11.below d12
              have f_w12 := f_w11.below d12
              clear qw11 n0_w11 n1_w11 n2_w11 f_w11 d12
              go_wp2_with fail
              go_ret
              exact ⟨rfl, qw12⟩
            | true =>
              have hx0 : 0 ≤ x := hun hua
              obtain rfl : x = 0 := by omega
              cases ub with
              | false =>
                clear hua hub hun hut hUc
                go_enter Try.func8, Try.ntmps8
                have b0 := Below.refl w.heap.size w
                go_wp2_with fail
                refine (law2_known _).mono ?_
                rintro e w1 ⟨rfl, d1⟩
                have qw1 := (b0).trans (d1.mono (b0).size)
                have n0_w1 := n0.below d1
                have n1_w1 := n1.below d1
                have n2_w1 := n2.below d1
                clear b0 n0 n1 n2 d1
                go_wp2_with fail
                refine (kn_Few _ x0 true HF0.out w _ h0 n0_w1).mono ?_
                rintro e w2 ⟨rfl, d2⟩
                have qw2 := (qw1).trans (d2.mono (qw1).size)
                have n0_w2 := n0_w1.below d2
                have n1_w2 := n1_w1.below d2
                have n2_w2 := n2_w1.below d2
                clear qw1 n0_w1 n1_w1 n2_w1 d2
                go_wp2_with fail
                refine (kn_Few _ x1 true HF1.out w _ h1 n1_w2).mono ?_
                rintro e w3 ⟨rfl, d3⟩
                have qw3 := (qw2).trans (d3.mono (qw2).size)
                have n0_w3 := n0_w2.below d3
                have n1_w3 := n1_w2.below d3
                have n2_w3 := n2_w2.below d3
                clear qw2 n0_w2 n1_w2 n2_w2 d3
                go_wp2_with fail
                refine (kn_Few _ x2 true HF2.out w _ h2 n2_w3).mono ?_
                rintro e w4 ⟨rfl, d4⟩
                have qw4 := (qw3).trans (d4.mono (qw3).size)
                have n0_w4 := n0_w3.below d4
                have n1_w4 := n1_w3.below d4
                have n2_w4 := n2_w3.below d4
                clear qw3 n0_w3 n1_w3 n2_w3 d4
                go_wp2_with fail
                refine (hCx _ n0_w4 n1_w4).mono ?_
                rintro e w5 ⟨rfl, d5⟩
                have qw5 := (qw4).trans (d5.mono (qw4).size)
                have n0_w5 := n0_w4.below d5
                have n1_w5 := n1_w4.below d5
                have n2_w5 := n2_w4.below d5
                clear qw4 n0_w4 n1_w4 n2_w4 d5
                go_wp2_with fail
                refine (hCy _ n1_w5 n2_w5).mono ?_
                rintro e w6 ⟨rfl, d6⟩
                have qw6 := (qw5).trans (d6.mono (qw5).size)
                have n0_w6 := n0_w5.below d6
                have n1_w6 := n1_w5.below d6
                have n2_w6 := n2_w5.below d6
                clear qw5 n0_w5 n1_w5 n2_w5 d6
                go_wp2_with fail
                refine (hCz _ n0_w6 n2_w6).mono ?_
                rintro e w7 ⟨rfl, d7⟩
                have qw7 := (qw6).trans (d7.mono (qw6).size)
                have n0_w7 := n0_w6.below d7
                have n1_w7 := n1_w6.below d7
                have n2_w7 := n2_w6.below d7
                clear qw6 n0_w6 n1_w6 n2_w6 d7
                go_wp2_with fail
                refine (hUa _ n0_w7 n1_w7).mono ?_
                rintro e w8 ⟨rfl, d8⟩
                have qw8 := (qw7).trans (d8.mono (qw7).size)
                have n0_w8 := n0_w7.below d8
                have n1_w8 := n1_w7.below d8
                have n2_w8 := n2_w7.below d8
                clear qw7 n0_w7 n1_w7 n2_w7 d8
                go_wp2_with fail
                refine (hUa _ n0_w8 n1_w8).mono ?_
                rintro e w9 ⟨rfl, d9⟩
                have qw9 := (qw8).trans (d9.mono (qw8).size)
                have n0_w9 := n0_w8.below d9
                have n1_w9 := n1_w8.below d9
                have n2_w9 := n2_w8.below d9
                clear qw8 n0_w8 n1_w8 n2_w8 d9
                go_wp2_with fail
                refine (hUb _ n1_w9 n2_w9).mono ?_
                rintro e w10 ⟨rfl, d10⟩
                have qw10 := (qw9).trans (d10.mono (qw9).size)
                have n0_w10 := n0_w9.below d10
                have n1_w10 := n1_w9.below d10
                have n2_w10 := n2_w9.below d10
                clear qw9 n0_w9 n1_w9 n2_w9 d10
                go_wp2_with fail
                refine (hUz _ n0_w10).mono ?_
                rintro e w11 ⟨rfl, d11⟩
                have qw11 := (qw10).trans (d11.mono (qw10).size)
                have n0_w11 := n0_w10.below d11
                have n1_w11 := n1_w10.below d11
                have n2_w11 := n2_w10.below d11
                clear qw10 n0_w10 n1_w10 n2_w10 d11
                go_wp2_with fail
                refine (hFo _ n0_w11).mono ?_
                rintro e w12 ⟨a12, c12, rfl, h12, d12⟩
                have qw12 := (qw11).trans (d12.mono (qw11).size)
                have n0_w12 := n0_w11.below d12
                have n1_w12 := n1_w11.below d12
                have n2_w12 := n2_w11.below d12
                have f_w12 := h12
                clear qw11 n0_w11 n1_w11 n2_w11 h12 d12
                go_wp2_with fail
                refine (hSm _ _ n0_w12 f_w12).mono ?_
                rintro e w13 ⟨rfl, d13⟩
                have qw13 := (qw12).trans (d13.mono (qw12).size)
                have n0_w13 := n0_w12.below d13
                have n1_w13 := n1_w12.below d13
                have n2_w13 := n2_w12.below d13
                have f_w13 := f_w12.below d13
                clear qw12 n0_w12 n1_w12 n2_w12 f_w12 d13
                go_wp2_with fail
                go_ret
                exact ⟨rfl, qw13⟩
              | true =>
                have hUc := hUc true (hut hua hub)
                clear hua hub hun hut
                go_enter Try.func8, Try.ntmps8
                have b0 := Below.refl w.heap.size w
                go_wp2_with fail
                refine (law2_known _).mono ?_
                rintro e w1 ⟨rfl, d1⟩
                have qw1 := (b0).trans (d1.mono (b0).size)
                have n0_w1 := n0.below d1
                have n1_w1 := n1.below d1
                have n2_w1 := n2.below d1
                clear b0 n0 n1 n2 d1
                go_wp2_with fail
                refine (kn_Few _ x0 true HF0.out w _ h0 n0_w1).mono ?_
                rintro e w2 ⟨rfl, d2⟩
                have qw2 := (qw1).trans (d2.mono (qw1).size)
                have n0_w2 := n0_w1.below d2
                have n1_w2 := n1_w1.below d2
                have n2_w2 := n2_w1.below d2
                clear qw1 n0_w1 n1_w1 n2_w1 d2
                go_wp2_with fail
                refine (kn_Few _ x1 true HF1.out w _ h1 n1_w2).mono ?_
                rintro e w3 ⟨rfl, d3⟩
                have qw3 := (qw2).trans (d3.mono (qw2).size)
                have n0_w3 := n0_w2.below d3
                have n1_w3 := n1_w2.below d3
                have n2_w3 := n2_w2.below d3
                clear qw2 n0_w2 n1_w2 n2_w2 d3
                go_wp2_with fail
                refine (kn_Few _ x2 true HF2.out w _ h2 n2_w3).mono ?_
                rintro e w4 ⟨rfl, d4⟩
                have qw4 := (qw3).trans (d4.mono (qw3).size)
                have n0_w4 := n0_w3.below d4
                have n1_w4 := n1_w3.below d4
                have n2_w4 := n2_w3.below d4
                clear qw3 n0_w3 n1_w3 n2_w3 d4
                go_wp2_with fail
                refine (hCx _ n0_w4 n1_w4).mono ?_
                rintro e w5 ⟨rfl, d5⟩
                have qw5 := (qw4).trans (d5.mono (qw4).size)
                have n0_w5 := n0_w4.below d5
                have n1_w5 := n1_w4.below d5
                have n2_w5 := n2_w4.below d5
                clear qw4 n0_w4 n1_w4 n2_w4 d5
                go_wp2_with fail
                refine (hCy _ n1_w5 n2_w5).mono ?_
                rintro e w6 ⟨rfl, d6⟩
                have qw6 := (qw5).trans (d6.mono (qw5).size)
                have n0_w6 := n0_w5.below d6
                have n1_w6 := n1_w5.below d6
                have n2_w6 := n2_w5.below d6
                clear qw5 n0_w5 n1_w5 n2_w5 d6
                go_wp2_with fail
                refine (hCz _ n0_w6 n2_w6).mono ?_
                rintro e w7 ⟨rfl, d7⟩
                have qw7 := (qw6).trans (d7.mono (qw6).size)
                have n0_w7 := n0_w6.below d7
                have n1_w7 := n1_w6.below d7
                have n2_w7 := n2_w6.below d7
                clear qw6 n0_w6 n1_w6 n2_w6 d7
                go_wp2_with fail
                refine (hUa _ n0_w7 n1_w7).mono ?_
                rintro e w8 ⟨rfl, d8⟩
                have qw8 := (qw7).trans (d8.mono (qw7).size)
                have n0_w8 := n0_w7.below d8
                have n1_w8 := n1_w7.below d8
                have n2_w8 := n2_w7.below d8
                clear qw7 n0_w7 n1_w7 n2_w7 d8
                go_wp2_with fail
                refine (hUa _ n0_w8 n1_w8).mono ?_
                rintro e w9 ⟨rfl, d9⟩
                have qw9 := (qw8).trans (d9.mono (qw8).size)
                have n0_w9 := n0_w8.below d9
                have n1_w9 := n1_w8.below d9
                have n2_w9 := n2_w8.below d9
                clear qw8 n0_w8 n1_w8 n2_w8 d9
                go_wp2_with fail
                refine (hUb _ n1_w9 n2_w9).mono ?_
                rintro e w10 ⟨rfl, d10⟩
                have qw10 := (qw9).trans (d10.mono (qw9).size)
                have n0_w10 := n0_w9.below d10
                have n1_w10 := n1_w9.below d10
                have n2_w10 := n2_w9.below d10
                clear qw9 n0_w9 n1_w9 n2_w9 d10
                go_wp2_with fail
                refine (hUc _ n0_w10 n2_w10).mono ?_
                rintro e w11 ⟨rfl, d11⟩
                have qw11 := (qw10).trans (d11.mono (qw10).size)
                have n0_w11 := n0_w10.below d11
                have n1_w11 := n1_w10.below d11
                have n2_w11 := n2_w10.below d11
                clear qw10 n0_w10 n1_w10 n2_w10 d11
                go_wp2_with fail
                refine (hUz _ n0_w11).mono ?_
                rintro e w12 ⟨rfl, d12⟩
                have qw12 := (qw11).trans (d12.mono (qw11).size)
                have n0_w12 := n0_w11.below d12
                have n1_w12 := n1_w11.below d12
                have n2_w12 := n2_w11.below d12
                clear qw11 n0_w11 n1_w11 n2_w11 d12
                go_wp2_with fail
                refine (hFo _ n0_w12).mono ?_
                rintro e w13 ⟨a13, c13, rfl, h13, d13⟩
                have qw13 := (qw12).trans (d13.mono (qw12).size)
                have n0_w13 := n0_w12.below d13
                have n1_w13 := n1_w12.below d13
                have n2_w13 := n2_w12.below d13
                have f_w13 := h13
                clear qw12 n0_w12 n1_w12 n2_w12 h13 d13
                go_wp2_with fail
                refine (hSm _ _ n0_w13 f_w13).mono ?_
                rintro e w14 ⟨rfl, d14⟩
                have qw14 := (qw13).trans (d14.mono (qw13).size)
                have n0_w14 := n0_w13.below d14
                have n1_w14 := n1_w13.below d14
                have n2_w14 := n2_w13.below d14
                have f_w14 := f_w13.below d14
                clear qw13 n0_w13 n1_w13 n2_w13 f_w13 d14
                go_wp2_with fail
                go_ret
                exact ⟨rfl, qw14⟩
          · have hy1 : 0 < y := by omega
            clear htr hy
            cases ua with
            | false =>
              clear hua hub hun hut hUc
              go_enter Try.func8, Try.ntmps8
              have b0 := Below.refl w.heap.size w
              go_wp2_with fail
              refine (law2_known _).mono ?_
              rintro e w1 ⟨rfl, d1⟩
              have qw1 := (b0).trans (d1.mono (b0).size)
              have n0_w1 := n0.below d1
              have n1_w1 := n1.below d1
              have n2_w1 := n2.below d1
              clear b0 n0 n1 n2 d1
              go_wp2_with fail
              refine (kn_Few _ x0 true HF0.out w _ h0 n0_w1).mono ?_
              rintro e w2 ⟨rfl, d2⟩
              have qw2 := (qw1).trans (d2.mono (qw1).size)
              have n0_w2 := n0_w1.below d2
              have n1_w2 := n1_w1.below d2
              have n2_w2 := n2_w1.below d2
              clear qw1 n0_w1 n1_w1 n2_w1 d2
              go_wp2_with fail
              refine (kn_Few _ x1 true HF1.out w _ h1 n1_w2).mono ?_
              rintro e w3 ⟨rfl, d3⟩
              have qw3 := (qw2).trans (d3.mono (qw2).size)
              have n0_w3 := n0_w2.below d3
              have n1_w3 := n1_w2.below d3
              have n2_w3 := n2_w2.below d3
              clear qw2 n0_w2 n1_w2 n2_w2 d3
              go_wp2_with fail
              refine (kn_Few _ x2 true HF2.out w _ h2 n2_w3).mono ?_
              rintro e w4 ⟨rfl, d4⟩
              have qw4 := (qw3).trans (d4.mono (qw3).size)
              have n0_w4 := n0_w3.below d4
              have n1_w4 := n1_w3.below d4
              have n2_w4 := n2_w3.below d4
              clear qw3 n0_w3 n1_w3 n2_w3 d4
              go_wp2_with fail
              refine (hCx _ n0_w4 n1_w4).mono ?_
              rintro e w5 ⟨rfl, d5⟩
              have qw5 := (qw4).trans (d5.mono (qw4).size)
              have n0_w5 := n0_w4.below d5
              have n1_w5 := n1_w4.below d5
              have n2_w5 := n2_w4.below d5
              clear qw4 n0_w4 n1_w4 n2_w4 d5
              go_wp2_with fail
              refine (hCy _ n1_w5 n2_w5).mono ?_
              rintro e w6 ⟨rfl, d6⟩
              have qw6 := (qw5).trans (d6.mono (qw5).size)
              have n0_w6 := n0_w5.below d6
              have n1_w6 := n1_w5.below d6
              have n2_w6 := n2_w5.below d6
              clear qw5 n0_w5 n1_w5 n2_w5 d6
              go_wp2_with fail
              refine (hUa _ n0_w6 n1_w6).mono ?_
              rintro e w7 ⟨rfl, d7⟩
              have qw7 := (qw6).trans (d7.mono (qw6).size)
              have n0_w7 := n0_w6.below d7
              have n1_w7 := n1_w6.below d7
              have n2_w7 := n2_w6.below d7
              clear qw6 n0_w6 n1_w6 n2_w6 d7
              go_wp2_with fail
              refine (hUa _ n0_w7 n1_w7).mono ?_
              rintro e w8 ⟨rfl, d8⟩
              have qw8 := (qw7).trans (d8.mono (qw7).size)
              have n0_w8 := n0_w7.below d8
              have n1_w8 := n1_w7.below d8
              have n2_w8 := n2_w7.below d8
              clear qw7 n0_w7 n1_w7 n2_w7 d8
              go_wp2_with fail
              refine (hUz _ n0_w8).mono ?_
              rintro e w9 ⟨rfl, d9⟩
              have qw9 := (qw8).trans (d9.mono (qw8).size)
              have n0_w9 := n0_w8.below d9
              have n1_w9 := n1_w8.below d9
              have n2_w9 := n2_w8.below d9
              clear qw8 n0_w8 n1_w8 n2_w8 d9
              go_wp2_with fail
              refine (hFo _ n0_w9).mono ?_
              rintro e w10 ⟨a10, c10, rfl, h10, d10⟩
              have qw10 := (qw9).trans (d10.mono (qw9).size)
              have n0_w10 := n0_w9.below d10
              have n1_w10 := n1_w9.below d10
              have n2_w10 := n2_w9.below d10
              have f_w10 := h10
              clear qw9 n0_w9 n1_w9 n2_w9 h10 d10
              go_wp2_with fail
              refine (hSm _ _ n0_w10 f_w10).mono ?_
              rintro e w11 ⟨rfl, d11⟩
              have qw11 := (qw10).trans (d11.mono (qw10).size)
              have n0_w11 := n0_w10.below d11
              have n1_w11 := n1_w10.below d11
              have n2_w11 := n2_w10.below d11
              have f_w11 := f_w10.below d11
              clear qw10 n0_w10 n1_w10 n2_w10 f_w10 d11
              go_wp2_with fail
              go_ret
              exact ⟨rfl, qw11⟩
            | true =>
              have hx0 : 0 ≤ x := hun hua
              obtain rfl : x = 0 := by omega
              cases ub with
              | false =>
                clear hua hub hun hut hUc
                go_enter Try.func8, Try.ntmps8
                have b0 := Below.refl w.heap.size w
                go_wp2_with fail
                refine (law2_known _).mono ?_
                rintro e w1 ⟨rfl, d1⟩
                have qw1 := (b0).trans (d1.mono (b0).size)
                have n0_w1 := n0.below d1
                have n1_w1 := n1.below d1
                have n2_w1 := n2.below d1
                clear b0 n0 n1 n2 d1
                go_wp2_with fail
                refine (kn_Few _ x0 true HF0.out w _ h0 n0_w1).mono ?_
                rintro e w2 ⟨rfl, d2⟩
                have qw2 := (qw1).trans (d2.mono (qw1).size)
                have n0_w2 := n0_w1.below d2
                have n1_w2 := n1_w1.below d2
                have n2_w2 := n2_w1.below d2
                clear qw1 n0_w1 n1_w1 n2_w1 d2
                go_wp2_with fail
                refine (kn_Few _ x1 true HF1.out w _ h1 n1_w2).mono ?_
                rintro e w3 ⟨rfl, d3⟩
                have qw3 := (qw2).trans (d3.mono (qw2).size)
                have n0_w3 := n0_w2.below d3
                have n1_w3 := n1_w2.below d3
                have n2_w3 := n2_w2.below d3
                clear qw2 n0_w2 n1_w2 n2_w2 d3
                go_wp2_with fail
                refine (kn_Few _ x2 true HF2.out w _ h2 n2_w3).mono ?_
                rintro e w4 ⟨rfl, d4⟩
                have qw4 := (qw3).trans (d4.mono (qw3).size)
                have n0_w4 := n0_w3.below d4
                have n1_w4 := n1_w3.below d4
                have n2_w4 := n2_w3.below d4
                clear qw3 n0_w3 n1_w3 n2_w3 d4
                go_wp2_with fail
                refine (hCx _ n0_w4 n1_w4).mono ?_
                rintro e w5 ⟨rfl, d5⟩
                have qw5 := (qw4).trans (d5.mono (qw4).size)
                have n0_w5 := n0_w4.below d5
                have n1_w5 := n1_w4.below d5
                have n2_w5 := n2_w4.below d5
                clear qw4 n0_w4 n1_w4 n2_w4 d5
                go_wp2_with fail
                refine (hCy _ n1_w5 n2_w5).mono ?_
                rintro e w6 ⟨rfl, d6⟩
                have qw6 := (qw5).trans (d6.mono (qw5).size)
                have n0_w6 := n0_w5.below d6
                have n1_w6 := n1_w5.below d6
                have n2_w6 := n2_w5.below d6
                clear qw5 n0_w5 n1_w5 n2_w5 d6
                go_wp2_with fail
                refine (hUa _ n0_w6 n1_w6).mono ?_
                rintro e w7 ⟨rfl, d7⟩
                have qw7 := (qw6).trans (d7.mono (qw6).size)
                have n0_w7 := n0_w6.below d7
                have n1_w7 := n1_w6.below d7
                have n2_w7 := n2_w6.below d7
                clear qw6 n0_w6 n1_w6 n2_w6 d7
                go_wp2_with fail
                refine (hUa _ n0_w7 n1_w7).mono ?_
                rintro e w8 ⟨rfl, d8⟩
                have qw8 := (qw7).trans (d8.mono (qw7).size)
                have n0_w8 := n0_w7.below d8
                have n1_w8 := n1_w7.below d8
                have n2_w8 := n2_w7.below d8
                clear qw7 n0_w7 n1_w7 n2_w7 d8
                go_wp2_with fail
                refine (hUb _ n1_w8 n2_w8).mono ?_
                rintro e w9 ⟨rfl, d9⟩
                have qw9 := (qw8).trans (d9.mono (qw8).size)
                have n0_w9 := n0_w8.below d9
                have n1_w9 := n1_w8.below d9
                have n2_w9 := n2_w8.below d9
                clear qw8 n0_w8 n1_w8 n2_w8 d9
                go_wp2_with fail
                refine (hUz _ n0_w9).mono ?_
                rintro e w10 ⟨rfl, d10⟩
                have qw10 := (qw9).trans (d10.mono (qw9).size)
                have n0_w10 := n0_w9.below d10
                have n1_w10 := n1_w9.below d10
                have n2_w10 := n2_w9.below d10
                clear qw9 n0_w9 n1_w9 n2_w9 d10
                go_wp2_with fail
                refine (hFo _ n0_w10).mono ?_
                rintro e w11 ⟨a11, c11, rfl, h11, d11⟩
                have qw11 := (qw10).trans (d11.mono (qw10).size)
                have n0_w11 := n0_w10.below d11
                have n1_w11 := n1_w10.below d11
                have n2_w11 := n2_w10.below d11
                have f_w11 := h11
                clear qw10 n0_w10 n1_w10 n2_w10 h11 d11
                go_wp2_with fail
                refine (hSm _ _ n0_w11 f_w11).mono ?_
                rintro e w12 ⟨rfl, d12⟩
                have qw12 := (qw11).trans (d12.mono (qw11).size)
                have n0_w12 := n0_w11.below d12
                have n1_w12 := n1_w11.below d12
                have n2_w12 := n2_w11.below d12
                have f_w12 := f_w11.below d12
                clear qw11 n0_w11 n1_w11 n2_w11 f_w11 d12
                go_wp2_with fail
                go_ret
                exact ⟨rfl, qw12⟩
              | true =>
                have hUc := hUc true (hut hua hub)
                clear hua hub hun hut
                go_enter Try.func8, Try.ntmps8
                have b0 := Below.refl w.heap.size w
                go_wp2_with fail
                refine (law2_known _).mono ?_
                rintro e w1 ⟨rfl, d1⟩
                have qw1 := (b0).trans (d1.mono (b0).size)
                have n0_w1 := n0.below d1
                have n1_w1 := n1.below d1
                have n2_w1 := n2.below d1
                clear b0 n0 n1 n2 d1
                go_wp2_with fail
                refine (kn_Few _ x0 true HF0.out w _ h0 n0_w1).mono ?_
                rintro e w2 ⟨rfl, d2⟩
                have qw2 := (qw1).trans (d2.mono (qw1).size)
                have n0_w2 := n0_w1.below d2
                have n1_w2 := n1_w1.below d2
                have n2_w2 := n2_w1.below d2
                clear qw1 n0_w1 n1_w1 n2_w1 d2
                go_wp2_with fail
                refine (kn_Few _ x1 true HF1.out w _ h1 n1_w2).mono ?_
                rintro e w3 ⟨rfl, d3⟩
                have qw3 := (qw2).trans (d3.mono (qw2).size)
                have n0_w3 := n0_w2.below d3
                have n1_w3 := n1_w2.below d3
                have n2_w3 := n2_w2.below d3
                clear qw2 n0_w2 n1_w2 n2_w2 d3
                go_wp2_with fail
                refine (kn_Few _ x2 true HF2.out w _ h2 n2_w3).mono ?_
                rintro e w4 ⟨rfl, d4⟩
                have qw4 := (qw3).trans (d4.mono (qw3).size)
                have n0_w4 := n0_w3.below d4
                have n1_w4 := n1_w3.below d4
                have n2_w4 := n2_w3.below d4
                clear qw3 n0_w3 n1_w3 n2_w3 d4
                go_wp2_with fail
                refine (hCx _ n0_w4 n1_w4).mono ?_
                rintro e w5 ⟨rfl, d5⟩
                have qw5 := (qw4).trans (d5.mono (qw4).size)
                have n0_w5 := n0_w4.below d5
                have n1_w5 := n1_w4.below d5
                have n2_w5 := n2_w4.below d5
                clear qw4 n0_w4 n1_w4 n2_w4 d5
                go_wp2_with fail
                refine (hCy _ n1_w5 n2_w5).mono ?_
                rintro e w6 ⟨rfl, d6⟩
                have qw6 := (qw5).trans (d6.mono (qw5).size)
                have n0_w6 := n0_w5.below d6
                have n1_w6 := n1_w5.below d6
                have n2_w6 := n2_w5.below d6
                clear qw5 n0_w5 n1_w5 n2_w5 d6
                go_wp2_with fail
                refine (hUa _ n0_w6 n1_w6).mono ?_
                rintro e w7 ⟨rfl, d7⟩
                have qw7 := (qw6).trans (d7.mono (qw6).size)
                have n0_w7 := n0_w6.below d7
                have n1_w7 := n1_w6.below d7
                have n2_w7 := n2_w6.below d7
                clear qw6 n0_w6 n1_w6 n2_w6 d7
                go_wp2_with fail
                refine (hUa _ n0_w7 n1_w7).mono ?_
                rintro e w8 ⟨rfl, d8⟩
                have qw8 := (qw7).trans (d8.mono (qw7).size)
                have n0_w8 := n0_w7.below d8
                have n1_w8 := n1_w7.below d8
                have n2_w8 := n2_w7.below d8
                clear qw7 n0_w7 n1_w7 n2_w7 d8
                go_wp2_with fail
                refine (hUb _ n1_w8 n2_w8).mono ?_
                rintro e w9 ⟨rfl, d9⟩
                have qw9 := (qw8).trans (d9.mono (qw8).size)
                have n0_w9 := n0_w8.below d9
                have n1_w9 := n1_w8.below d9
                have n2_w9 := n2_w8.below d9
                clear qw8 n0_w8 n1_w8 n2_w8 d9
                go_wp2_with fail
                refine (hUc _ n0_w9 n2_w9).mono ?_
                rintro e w10 ⟨rfl, d10⟩
                have qw10 := (qw9).trans (d10.mono (qw9).size)
                have n0_w10 := n0_w9.below d10
                have n1_w10 := n1_w9.below d10
                have n2_w10 := n2_w9.below d10
                clear qw9 n0_w9 n1_w9 n2_w9 d10
                go_wp2_with fail
                refine (hUz _ n0_w10).mono ?_
                rintro e w11 ⟨rfl, d11⟩
                have qw11 := (qw10).trans (d11.mono (qw10).size)
                have n0_w11 := n0_w10.below d11
                have n1_w11 := n1_w10.below d11
                have n2_w11 := n2_w10.below d11
                clear qw10 n0_w10 n1_w10 n2_w10 d11
                go_wp2_with fail
                refine (hFo _ n0_w11).mono ?_
                rintro e w12 ⟨a12, c12, rfl, h12, d12⟩
                have qw12 := (qw11).trans (d12.mono (qw11).size)
                have n0_w12 := n0_w11.below d12
                have n1_w12 := n1_w11.below d12
                have n2_w12 := n2_w11.below d12
                have f_w12 := h12
                clear qw11 n0_w11 n1_w11 n2_w11 h12 d12
                go_wp2_with fail
                refine (hSm _ _ n0_w12 f_w12).mono ?_
                rintro e w13 ⟨rfl, d13⟩
                have qw13 := (qw12).trans (d13.mono (qw12).size)
                have n0_w13 := n0_w12.below d13
                have n1_w13 := n1_w12.below d13
                have n2_w13 := n2_w12.below d13
                have f_w13 := f_w12.below d13
                clear qw12 n0_w12 n1_w12 n2_w12 f_w12 d13
                go_wp2_with fail
                go_ret
                exact ⟨rfl, qw13⟩
        · have hx1 : 0 < x := by omega
          clear htr hx
          cases ua with
          | false =>
            clear hua hub hun hut hUc
            go_enter Try.func8, Try.ntmps8
            have b0 := Below.refl w.heap.size w
            go_wp2_with fail
            refine (law2_known _).mono ?_
            rintro e w1 ⟨rfl, d1⟩
            have qw1 := (b0).trans (d1.mono (b0).size)
            have n0_w1 := n0.below d1
            have n1_w1 := n1.below d1
            have n2_w1 := n2.below d1
            clear b0 n0 n1 n2 d1
            go_wp2_with fail
            refine (kn_Few _ x0 true HF0.out w _ h0 n0_w1).mono ?_
            rintro e w2 ⟨rfl, d2⟩
            have qw2 := (qw1).trans (d2.mono (qw1).size)
            have n0_w2 := n0_w1.below d2
            have n1_w2 := n1_w1.below d2
            have n2_w2 := n2_w1.below d2
            clear qw1 n0_w1 n1_w1 n2_w1 d2
            go_wp2_with fail
            refine (kn_Few _ x1 true HF1.out w _ h1 n1_w2).mono ?_
            rintro e w3 ⟨rfl, d3⟩
            have qw3 := (qw2).trans (d3.mono (qw2).size)
            have n0_w3 := n0_w2.below d3
            have n1_w3 := n1_w2.below d3
            have n2_w3 := n2_w2.below d3
            clear qw2 n0_w2 n1_w2 n2_w2 d3
            go_wp2_with fail
            refine (kn_Few _ x2 true HF2.out w _ h2 n2_w3).mono ?_
            rintro e w4 ⟨rfl, d4⟩
            have qw4 := (qw3).trans (d4.mono (qw3).size)
            have n0_w4 := n0_w3.below d4
            have n1_w4 := n1_w3.below d4
            have n2_w4 := n2_w3.below d4
            clear qw3 n0_w3 n1_w3 n2_w3 d4
            go_wp2_with fail
            refine (hCx _ n0_w4 n1_w4).mono ?_
            rintro e w5 ⟨rfl, d5⟩
            have qw5 := (qw4).trans (d5.mono (qw4).size)
            have n0_w5 := n0_w4.below d5
            have n1_w5 := n1_w4.below d5
            have n2_w5 := n2_w4.below d5
            clear qw4 n0_w4 n1_w4 n2_w4 d5
            go_wp2_with fail
            refine (hCy _ n1_w5 n2_w5).mono ?_
            rintro e w6 ⟨rfl, d6⟩
            have qw6 := (qw5).trans (d6.mono (qw5).size)
            have n0_w6 := n0_w5.below d6
            have n1_w6 := n1_w5.below d6
            have n2_w6 := n2_w5.below d6
            clear qw5 n0_w5 n1_w5 n2_w5 d6
            go_wp2_with fail
            refine (hUa _ n0_w6 n1_w6).mono ?_
            rintro e w7 ⟨rfl, d7⟩
            have qw7 := (qw6).trans (d7.mono (qw6).size)
            have n0_w7 := n0_w6.below d7
            have n1_w7 := n1_w6.below d7
            have n2_w7 := n2_w6.below d7
            clear qw6 n0_w6 n1_w6 n2_w6 d7
            go_wp2_with fail
            refine (hUa _ n0_w7 n1_w7).mono ?_
            rintro e w8 ⟨rfl, d8⟩
            have qw8 := (qw7).trans (d8.mono (qw7).size)
            have n0_w8 := n0_w7.below d8
            have n1_w8 := n1_w7.below d8
            have n2_w8 := n2_w7.below d8
            clear qw7 n0_w7 n1_w7 n2_w7 d8
            go_wp2_with fail
            refine (hUz _ n0_w8).mono ?_
            rintro e w9 ⟨rfl, d9⟩
            have qw9 := (qw8).trans (d9.mono (qw8).size)
            have n0_w9 := n0_w8.below d9
            have n1_w9 := n1_w8.below d9
            have n2_w9 := n2_w8.below d9
            clear qw8 n0_w8 n1_w8 n2_w8 d9
            go_wp2_with fail
            refine (hFo _ n0_w9).mono ?_
            rintro e w10 ⟨a10, c10, rfl, h10, d10⟩
            have qw10 := (qw9).trans (d10.mono (qw9).size)
            have n0_w10 := n0_w9.below d10
            have n1_w10 := n1_w9.below d10
            have n2_w10 := n2_w9.below d10
            have f_w10 := h10
            clear qw9 n0_w9 n1_w9 n2_w9 h10 d10
            go_wp2_with fail
            refine (hSm _ _ n0_w10 f_w10).mono ?_
            rintro e w11 ⟨rfl, d11⟩
            have qw11 := (qw10).trans (d11.mono (qw10).size)
            have n0_w11 := n0_w10.below d11
            have n1_w11 := n1_w10.below d11
            have n2_w11 := n2_w10.below d11
            have f_w11 := f_w10.below d11
            clear qw10 n0_w10 n1_w10 n2_w10 f_w10 d11
            go_wp2_with fail
            go_ret
            exact ⟨rfl, qw11⟩
          | true =>
            have hx0 : 0 ≤ x := hun hua
            cases ub with
            | false =>
              clear hua hub hun hut hUc
              go_enter Try.func8, Try.ntmps8
              have b0 := Below.refl w.heap.size w
              go_wp2_with fail
              refine (law2_known _).mono ?_
              rintro e w1 ⟨rfl, d1⟩
              have qw1 := (b0).trans (d1.mono (b0).size)
              have n0_w1 := n0.below d1
              have n1_w1 := n1.below d1
              have n2_w1 := n2.below d1
              clear b0 n0 n1 n2 d1
              go_wp2_with fail
              refine (kn_Few _ x0 true HF0.out w _ h0 n0_w1).mono ?_
              rintro e w2 ⟨rfl, d2⟩
              have qw2 := (qw1).trans (d2.mono (qw1).size)
              have n0_w2 := n0_w1.below d2
              have n1_w2 := n1_w1.below d2
              have n2_w2 := n2_w1.below d2
              clear qw1 n0_w1 n1_w1 n2_w1 d2
              go_wp2_with fail
              refine (kn_Few _ x1 true HF1.out w _ h1 n1_w2).mono ?_
              rintro e w3 ⟨rfl, d3⟩
              have qw3 := (qw2).trans (d3.mono (qw2).size)
              have n0_w3 := n0_w2.below d3
              have n1_w3 := n1_w2.below d3
              have n2_w3 := n2_w2.below d3
              clear qw2 n0_w2 n1_w2 n2_w2 d3
              go_wp2_with fail
              refine (kn_Few _ x2 true HF2.out w _ h2 n2_w3).mono ?_
              rintro e w4 ⟨rfl, d4⟩
              have qw4 := (qw3).trans (d4.mono (qw3).size)
              have n0_w4 := n0_w3.below d4
              have n1_w4 := n1_w3.below d4
              have n2_w4 := n2_w3.below d4
              clear qw3 n0_w3 n1_w3 n2_w3 d4
              go_wp2_with fail
              refine (hCx _ n0_w4 n1_w4).mono ?_
              rintro e w5 ⟨rfl, d5⟩
              have qw5 := (qw4).trans (d5.mono (qw4).size)
              have n0_w5 := n0_w4.below d5
              have n1_w5 := n1_w4.below d5
              have n2_w5 := n2_w4.below d5
              clear qw4 n0_w4 n1_w4 n2_w4 d5
              go_wp2_with fail
              refine (hCy _ n1_w5 n2_w5).mono ?_
              rintro e w6 ⟨rfl, d6⟩
              have qw6 := (qw5).trans (d6.mono (qw5).size)
              have n0_w6 := n0_w5.below d6
              have n1_w6 := n1_w5.below d6
              have n2_w6 := n2_w5.below d6
              clear qw5 n0_w5 n1_w5 n2_w5 d6
              go_wp2_with fail
              refine (hUa _ n0_w6 n1_w6).mono ?_
              rintro e w7 ⟨rfl, d7⟩
              have qw7 := (qw6).trans (d7.mono (qw6).size)
              have n0_w7 := n0_w6.below d7
              have n1_w7 := n1_w6.below d7
              have n2_w7 := n2_w6.below d7
              clear qw6 n0_w6 n1_w6 n2_w6 d7
              go_wp2_with fail
              refine (hUa _ n0_w7 n1_w7).mono ?_
              rintro e w8 ⟨rfl, d8⟩
              have qw8 := (qw7).trans (d8.mono (qw7).size)
              have n0_w8 := n0_w7.below d8
              have n1_w8 := n1_w7.below d8
              have n2_w8 := n2_w7.below d8
              clear qw7 n0_w7 n1_w7 n2_w7 d8
              go_wp2_with fail
              refine (hUb _ n1_w8 n2_w8).mono ?_
              rintro e w9 ⟨rfl, d9⟩
              have qw9 := (qw8).trans (d9.mono (qw8).size)
              have n0_w9 := n0_w8.below d9
              have n1_w9 := n1_w8.below d9
              have n2_w9 := n2_w8.below d9
              clear qw8 n0_w8 n1_w8 n2_w8 d9
              go_wp2_with fail
              refine (hUz _ n0_w9).mono ?_
              rintro e w10 ⟨rfl, d10⟩
              have qw10 := (qw9).trans (d10.mono (qw9).size)
              have n0_w10 := n0_w9.below d10
              have n1_w10 := n1_w9.below d10
              have n2_w10 := n2_w9.below d10
              clear qw9 n0_w9 n1_w9 n2_w9 d10
              go_wp2_with fail
              refine (hFo _ n0_w10).mono ?_
              rintro e w11 ⟨a11, c11, rfl, h11, d11⟩
              have qw11 := (qw10).trans (d11.mono (qw10).size)
              have n0_w11 := n0_w10.below d11
              have n1_w11 := n1_w10.below d11
              have n2_w11 := n2_w10.below d11
              have f_w11 := h11
              clear qw10 n0_w10 n1_w10 n2_w10 h11 d11
              go_wp2_with fail
              refine (hSm _ _ n0_w11 f_w11).mono ?_
              rintro e w12 ⟨rfl, d12⟩
              have qw12 := (qw11).trans (d12.mono (qw11).size)
              have n0_w12 := n0_w11.below d12
              have n1_w12 := n1_w11.below d12
              have n2_w12 := n2_w11.below d12
              have f_w12 := f_w11.below d12
              clear qw11 n0_w11 n1_w11 n2_w11 f_w11 d12
              go_wp2_with fail
              go_ret
              exact ⟨rfl, qw12⟩
            | true =>
              have hUc := hUc true (hut hua hub)
              clear hua hub hun hut
              go_enter Try.func8, Try.ntmps8
              have b0 := Below.refl w.heap.size w
              go_wp2_with fail
              refine (law2_known _).mono ?_
              rintro e w1 ⟨rfl, d1⟩
              have qw1 := (b0).trans (d1.mono (b0).size)
              have n0_w1 := n0.below d1
              have n1_w1 := n1.below d1
              have n2_w1 := n2.below d1
              clear b0 n0 n1 n2 d1
              go_wp2_with fail
              refine (kn_Few _ x0 true HF0.out w _ h0 n0_w1).mono ?_
              rintro e w2 ⟨rfl, d2⟩
              have qw2 := (qw1).trans (d2.mono (qw1).size)
              have n0_w2 := n0_w1.below d2
              have n1_w2 := n1_w1.below d2
              have n2_w2 := n2_w1.below d2
              clear qw1 n0_w1 n1_w1 n2_w1 d2
              go_wp2_with fail
              refine (kn_Few _ x1 true HF1.out w _ h1 n1_w2).mono ?_
              rintro e w3 ⟨rfl, d3⟩
              have qw3 := (qw2).trans (d3.mono (qw2).size)
              have n0_w3 := n0_w2.below d3
              have n1_w3 := n1_w2.below d3
              have n2_w3 := n2_w2.below d3
              clear qw2 n0_w2 n1_w2 n2_w2 d3
              go_wp2_with fail
              refine (kn_Few _ x2 true HF2.out w _ h2 n2_w3).mono ?_
              rintro e w4 ⟨rfl, d4⟩
              have qw4 := (qw3).trans (d4.mono (qw3).size)
              have n0_w4 := n0_w3.below d4
              have n1_w4 := n1_w3.below d4
              have n2_w4 := n2_w3.below d4
              clear qw3 n0_w3 n1_w3 n2_w3 d4
              go_wp2_with fail
              refine (hCx _ n0_w4 n1_w4).mono ?_
              rintro e w5 ⟨rfl, d5⟩
              have qw5 := (qw4).trans (d5.mono (qw4).size)
              have n0_w5 := n0_w4.below d5
              have n1_w5 := n1_w4.below d5
              have n2_w5 := n2_w4.below d5
              clear qw4 n0_w4 n1_w4 n2_w4 d5
              go_wp2_with fail
              refine (hCy _ n1_w5 n2_w5).mono ?_
              rintro e w6 ⟨rfl, d6⟩
              have qw6 := (qw5).trans (d6.mono (qw5).size)
              have n0_w6 := n0_w5.below d6
              have n1_w6 := n1_w5.below d6
              have n2_w6 := n2_w5.below d6
              clear qw5 n0_w5 n1_w5 n2_w5 d6
              go_wp2_with fail
              refine (hUa _ n0_w6 n1_w6).mono ?_
              rintro e w7 ⟨rfl, d7⟩
              have qw7 := (qw6).trans (d7.mono (qw6).size)
              have n0_w7 := n0_w6.below d7
              have n1_w7 := n1_w6.below d7
              have n2_w7 := n2_w6.below d7
              clear qw6 n0_w6 n1_w6 n2_w6 d7
              go_wp2_with fail
              refine (hUa _ n0_w7 n1_w7).mono ?_
              rintro e w8 ⟨rfl, d8⟩
              have qw8 := (qw7).trans (d8.mono (qw7).size)
              have n0_w8 := n0_w7.below d8
              have n1_w8 := n1_w7.below d8
              have n2_w8 := n2_w7.below d8
              clear qw7 n0_w7 n1_w7 n2_w7 d8
              go_wp2_with fail
              refine (hUb _ n1_w8 n2_w8).mono ?_
              rintro e w9 ⟨rfl, d9⟩
              have qw9 := (qw8).trans (d9.mono (qw8).size)
              have n0_w9 := n0_w8.below d9
              have n1_w9 := n1_w8.below d9
              have n2_w9 := n2_w8.below d9
              clear qw8 n0_w8 n1_w8 n2_w8 d9
              go_wp2_with fail
              refine (hUc _ n0_w9 n2_w9).mono ?_
              rintro e w10 ⟨rfl, d10⟩
              have qw10 := (qw9).trans (d10.mono (qw9).size)
              have n0_w10 := n0_w9.below d10
              have n1_w10 := n1_w9.below d10
              have n2_w10 := n2_w9.below d10
              clear qw9 n0_w9 n1_w9 n2_w9 d10
              go_wp2_with fail
              refine (hUz _ n0_w10).mono ?_
              rintro e w11 ⟨rfl, d11⟩
              have qw11 := (qw10).trans (d11.mono (qw10).size)
              have n0_w11 := n0_w10.below d11
              have n1_w11 := n1_w10.below d11
              have n2_w11 := n2_w10.below d11
              clear qw10 n0_w10 n1_w10 n2_w10 d11
              go_wp2_with fail
              refine (hFo _ n0_w11).mono ?_
              rintro e w12 ⟨a12, c12, rfl, h12, d12⟩
              have qw12 := (qw11).trans (d12.mono (qw11).size)
              have n0_w12 := n0_w11.below d12
              have n1_w12 := n1_w11.below d12
              have n2_w12 := n2_w11.below d12
              have f_w12 := h12
              clear qw11 n0_w11 n1_w11 n2_w11 h12 d12
              go_wp2_with fail
              refine (hSm _ _ n0_w12 f_w12).mono ?_
              rintro e w13 ⟨rfl, d13⟩
              have qw13 := (qw12).trans (d13.mono (qw12).size)
              have n0_w13 := n0_w12.below d13
              have n1_w13 := n1_w12.below d13
              have n2_w13 := n2_w12.below d13
              have f_w13 := f_w12.below d13
              clear qw12 n0_w12 n1_w12 n2_w12 f_w12 d13
              go_wp2_with fail
              go_ret
              exact ⟨rfl, qw13⟩
end Go.Proofs.Ytoohhoillblaoaa
