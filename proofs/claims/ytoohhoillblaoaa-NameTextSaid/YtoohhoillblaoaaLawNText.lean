/-
  NameText: any labels as a name: whether they may be; in words, and back, by any origin.
-/
import Derived.Test.YtoohhoillblaoaaLawK2
import Derived.Test.YtoohhoillblaoaaNamY
namespace Go.Proofs.Ytoohhoillblaoaa
open Go.RowKit Go.Shelf
theorem text_few {n : Nm} (h : fewN n = true) : (textN n).length ≤ 500000 := by
  have h2 := of_decide_eq_true h
  unfold textN
  split
  · simp
  · have : ∀ m : Nm, (∀ x ∈ m, x.length ≤ 100) → (m.flatMap fun x => textL x ++ [46]).length ≤ m.length * 401 := by
      intro m
      induction m with
      | nil => simp
      | cons x r ih =>
        intro hm
        have h3 := textL_le x
        have h4 := hm x (by simp)
        have h5 := ih (fun y hy => hm y (by simp [hy]))
        simp only [List.flatMap_cons, List.length_append, List.length_cons, List.length_nil] at h5 ⊢
        omega
    have h6 := this n h2.2
    have h7 := h2.1
    omega

set_option maxRecDepth 100000 in
set_option maxHeartbeats 8000000 in
theorem law2_NameText (v0 : Value) (x0 : Nm) (v1 : Value) (x1 : Nm)  (w : World) (h0 : NmArg w v0 x0) (h1 : NmArg w v1 x1) :
    Calls Try.prog 3 #[v0, v1] w fun e w' => e = .returned (.bool true) ∧ Below w.heap.size w w' := by
  obtain ⟨k0, r0, rfl, _⟩ := id h0.1.1
  have n0 := h0.1
  obtain ⟨k1, r1, rfl, _⟩ := id h1.1.1
  have n1 := h1.1
  obtain ⟨f0, hf0⟩ : ∃ r, fewN x0 = r := ⟨_, rfl⟩
  cases f0 with
  | false =>
    go_enter Try.func3, Try.ntmps3
    have b0 := Below.refl w.heap.size w
    go_wp2_with fail
    refine (law2_known _).mono ?_
    rintro e w1 ⟨rfl, d1⟩
    have qw1 := (b0).trans (d1.mono (b0).size)
    have n0_w1 := n0.below d1
    have n1_w1 := n1.below d1
    clear b0 n0 n1 d1
    go_wp2_with fail
    refine (kn_Few _ x0 false hf0 w _ h0 n0_w1).mono ?_
    rintro e w2 ⟨rfl, d2⟩
    have qw2 := (qw1).trans (d2.mono (qw1).size)
    have n0_w2 := n0_w1.below d2
    have n1_w2 := n1_w1.below d2
    clear qw1 n0_w1 n1_w1 d2
    go_wp2_with fail
    go_ret
    exact ⟨rfl, qw2⟩
  | true =>
    obtain ⟨f1, hf1⟩ : ∃ r, fewN x1 = r := ⟨_, rfl⟩
    cases f1 with
    | false =>
      go_enter Try.func3, Try.ntmps3
      have b0 := Below.refl w.heap.size w
      go_wp2_with fail
      refine (law2_known _).mono ?_
      rintro e w1 ⟨rfl, d1⟩
      have qw1 := (b0).trans (d1.mono (b0).size)
      have n0_w1 := n0.below d1
      have n1_w1 := n1.below d1
      clear b0 n0 n1 d1
      go_wp2_with fail
      refine (kn_Few _ x0 true hf0 w _ h0 n0_w1).mono ?_
      rintro e w2 ⟨rfl, d2⟩
      have qw2 := (qw1).trans (d2.mono (qw1).size)
      have n0_w2 := n0_w1.below d2
      have n1_w2 := n1_w1.below d2
      clear qw1 n0_w1 n1_w1 d2
      go_wp2_with fail
      refine (kn_Few _ x1 false hf1 w _ h1 n1_w2).mono ?_
      rintro e w3 ⟨rfl, d3⟩
      have qw3 := (qw2).trans (d3.mono (qw2).size)
      have n0_w3 := n0_w2.below d3
      have n1_w3 := n1_w2.below d3
      clear qw2 n0_w2 n1_w2 d3
      go_wp2_with fail
      go_ret
      exact ⟨rfl, qw3⟩
    | true =>
      have g0 := fewN_ok hf0
      have g1 := fewN_ok hf1
      have z0 : x0.length ≤ 140 := (of_decide_eq_true hf0).1
      have z1 : x1.length ≤ 140 := (of_decide_eq_true hf1).1
      obtain ⟨q, hq⟩ : ∃ q, checkN x0 = q := ⟨_, rfl⟩
      obtain ⟨fo, hfo⟩ : ∃ q, foldN x0 = q := ⟨_, rfl⟩
      have hfl : fo.length = x0.length := by rw [← hfo]; exact foldN_len x0
      have hfk : NmOK fo := ⟨by omega, fun x hx => by rw [← hfo] at hx; unfold foldN at hx; obtain ⟨y, hy, rfl⟩ := List.mem_map.1 hx; rw [foldL_size]; exact g0.2 y hy⟩
      have hTx := fun W h => kn_NText (.slice k0 x0.length r0) x0 _ rfl W h g0
      have hRx := fun W h => kn_RText (.slice k0 x0.length r0) x0 _ rfl W h g0
      have hPx := fun (hc : checkN x0 = 0) W h => kn_NParse ⟨(textN x0).toArray⟩ (.slice k1 x1.length r1) x1 x0 0 _ (by simpa using parse_textN hc x1) rfl W h (by rw [mk_size]; exact text_few hf0) g1 (by omega)
      have hLx := fun W h => kn_NLen (.slice k0 x0.length r0) x0 _ rfl W h g0
      have hMx := fun W h => kn_RLen (.slice k0 x0.length r0) x0 _ rfl W h g0
      have hCx := fun W h => kn_NCheck (.slice k0 x0.length r0) x0 q hq W h g0
      have hDx := fun W h => kn_RCheck (.slice k0 x0.length r0) x0 q hq W h g0
      have hWx := fun W h => kn_NWild (.slice k0 x0.length r0) x0 _ rfl W h g0
      have hVx := fun W h => kn_RWild (.slice k0 x0.length r0) x0 _ rfl W h g0
      have hFx := fun W h => kn_NFold (.slice k0 x0.length r0) x0 fo _ hfo hfl W h g0
      have hGx := fun W h => kn_RFold (.slice k0 x0.length r0) x0 fo _ hfo hfl W h g0
      have HPX := Lib.hid hPx; have HQ := Lib.hid hq; have HF0 := Lib.hid hf0; have HF1 := Lib.hid hf1
      clear hPx hq hfo hfl hf0 hf1
      generalize (⟨(textN x0).toArray⟩ : ByteArray) = tx at *
      generalize (lenN x0 : Int) = ln at *
      generalize wildN x0 = wl at *
      by_cases hq0 : (q != 0) = true
      · go_enter Try.func3, Try.ntmps3
        have b0 := Below.refl w.heap.size w
        go_wp2_with fail
        refine (law2_known _).mono ?_
        rintro e w1 ⟨rfl, d1⟩
        have qw1 := (b0).trans (d1.mono (b0).size)
        have n0_w1 := n0.below d1
        have n1_w1 := n1.below d1
        clear b0 n0 n1 d1
        go_wp2_with fail
        refine (kn_Few _ x0 true HF0.out w _ h0 n0_w1).mono ?_
        rintro e w2 ⟨rfl, d2⟩
        have qw2 := (qw1).trans (d2.mono (qw1).size)
        have n0_w2 := n0_w1.below d2
        have n1_w2 := n1_w1.below d2
        clear qw1 n0_w1 n1_w1 d2
        go_wp2_with fail
        refine (kn_Few _ x1 true HF1.out w _ h1 n1_w2).mono ?_
        rintro e w3 ⟨rfl, d3⟩
        have qw3 := (qw2).trans (d3.mono (qw2).size)
        have n0_w3 := n0_w2.below d3
        have n1_w3 := n1_w2.below d3
        clear qw2 n0_w2 n1_w2 d3
        go_wp2_with fail
        refine (hDx _ n0_w3).mono ?_
        rintro e w4 ⟨rfl, d4⟩
        have qw4 := (qw3).trans (d4.mono (qw3).size)
        have n0_w4 := n0_w3.below d4
        have n1_w4 := n1_w3.below d4
        clear qw3 n0_w3 n1_w3 d4
        go_wp2_with fail
        refine (hTx _ n0_w4).mono ?_
        rintro e w5 ⟨rfl, d5⟩
        have qw5 := (qw4).trans (d5.mono (qw4).size)
        have n0_w5 := n0_w4.below d5
        have n1_w5 := n1_w4.below d5
        clear qw4 n0_w4 n1_w4 d5
        go_wp2_with fail
        refine (hCx _ n0_w5).mono ?_
        rintro e w6 ⟨rfl, d6⟩
        have qw6 := (qw5).trans (d6.mono (qw5).size)
        have n0_w6 := n0_w5.below d6
        have n1_w6 := n1_w5.below d6
        clear qw5 n0_w5 n1_w5 d6
        go_wp2_with fail
        refine (hRx _ n0_w6).mono ?_
        rintro e w7 ⟨rfl, d7⟩
        have qw7 := (qw6).trans (d7.mono (qw6).size)
        have n0_w7 := n0_w6.below d7
        have n1_w7 := n1_w6.below d7
        clear qw6 n0_w6 n1_w6 d7
        go_wp2_with fail
        refine (hLx _ n0_w7).mono ?_
        rintro e w8 ⟨rfl, d8⟩
        have qw8 := (qw7).trans (d8.mono (qw7).size)
        have n0_w8 := n0_w7.below d8
        have n1_w8 := n1_w7.below d8
        clear qw7 n0_w7 n1_w7 d8
        go_wp2_with fail
        refine (hMx _ n0_w8).mono ?_
        rintro e w9 ⟨rfl, d9⟩
        have qw9 := (qw8).trans (d9.mono (qw8).size)
        have n0_w9 := n0_w8.below d9
        have n1_w9 := n1_w8.below d9
        clear qw8 n0_w8 n1_w8 d9
        go_wp2_with fail
        refine (hFx _ n0_w9).mono ?_
        rintro e w10 ⟨a10, c10, rfl, h10, d10⟩
        have qw10 := (qw9).trans (d10.mono (qw9).size)
        have n0_w10 := n0_w9.below d10
        have n1_w10 := n1_w9.below d10
        have fa_w10 := h10
        clear qw9 n0_w9 n1_w9 h10 d10
        go_wp2_with fail
        refine (hGx _ n0_w10).mono ?_
        rintro e w11 ⟨a11, c11, rfl, h11, d11⟩
        have qw11 := (qw10).trans (d11.mono (qw10).size)
        have n0_w11 := n0_w10.below d11
        have n1_w11 := n1_w10.below d11
        have fa_w11 := fa_w10.below d11
        have fb_w11 := h11
        clear qw10 n0_w10 n1_w10 fa_w10 h11 d11
        go_wp2_with fail
        refine (kn_Is _ _ fo fo true (decide_eq_true rfl) _ fa_w11 fb_w11 hfk).mono ?_
        rintro e w12 ⟨rfl, d12⟩
        have qw12 := (qw11).trans (d12.mono (qw11).size)
        have n0_w12 := n0_w11.below d12
        have n1_w12 := n1_w11.below d12
        clear qw11 n0_w11 n1_w11 fa_w11 fb_w11 d12
        go_wp2_with fail
        refine (hWx _ n0_w12).mono ?_
        rintro e w13 ⟨rfl, d13⟩
        have qw13 := (qw12).trans (d13.mono (qw12).size)
        have n0_w13 := n0_w12.below d13
        have n1_w13 := n1_w12.below d13
        clear qw12 n0_w12 n1_w12 d13
        go_wp2_with fail
        refine (hVx _ n0_w13).mono ?_
        rintro e w14 ⟨rfl, d14⟩
        have qw14 := (qw13).trans (d14.mono (qw13).size)
        have n0_w14 := n0_w13.below d14
        have n1_w14 := n1_w13.below d14
        clear qw13 n0_w13 n1_w13 d14
        go_wp2_with fail
        go_ret
        exact ⟨rfl, qw14⟩
      have hP := HPX.out (by rw [HQ.out]; simpa using hq0)
      have hq1 : (q != 0) = false := by simpa using hq0
      clear hq0 HPX
      go_enter Try.func3, Try.ntmps3
      have b0 := Below.refl w.heap.size w
      go_wp2_with fail
      refine (law2_known _).mono ?_
      rintro e w1 ⟨rfl, d1⟩
      have qw1 := (b0).trans (d1.mono (b0).size)
      have n0_w1 := n0.below d1
      have n1_w1 := n1.below d1
      clear b0 n0 n1 d1
      go_wp2_with fail
      refine (kn_Few _ x0 true HF0.out w _ h0 n0_w1).mono ?_
      rintro e w2 ⟨rfl, d2⟩
      have qw2 := (qw1).trans (d2.mono (qw1).size)
      have n0_w2 := n0_w1.below d2
      have n1_w2 := n1_w1.below d2
      clear qw1 n0_w1 n1_w1 d2
      go_wp2_with fail
      refine (kn_Few _ x1 true HF1.out w _ h1 n1_w2).mono ?_
      rintro e w3 ⟨rfl, d3⟩
      have qw3 := (qw2).trans (d3.mono (qw2).size)
      have n0_w3 := n0_w2.below d3
      have n1_w3 := n1_w2.below d3
      clear qw2 n0_w2 n1_w2 d3
      go_wp2_with fail
      refine (hDx _ n0_w3).mono ?_
      rintro e w4 ⟨rfl, d4⟩
      have qw4 := (qw3).trans (d4.mono (qw3).size)
      have n0_w4 := n0_w3.below d4
      have n1_w4 := n1_w3.below d4
      clear qw3 n0_w3 n1_w3 d4
      go_wp2_with fail
      refine (hTx _ n0_w4).mono ?_
      rintro e w5 ⟨rfl, d5⟩
      have qw5 := (qw4).trans (d5.mono (qw4).size)
      have n0_w5 := n0_w4.below d5
      have n1_w5 := n1_w4.below d5
      clear qw4 n0_w4 n1_w4 d5
      go_wp2_with fail
      refine (hCx _ n0_w5).mono ?_
      rintro e w6 ⟨rfl, d6⟩
      have qw6 := (qw5).trans (d6.mono (qw5).size)
      have n0_w6 := n0_w5.below d6
      have n1_w6 := n1_w5.below d6
      clear qw5 n0_w5 n1_w5 d6
      go_wp2_with fail
      refine (hRx _ n0_w6).mono ?_
      rintro e w7 ⟨rfl, d7⟩
      have qw7 := (qw6).trans (d7.mono (qw6).size)
      have n0_w7 := n0_w6.below d7
      have n1_w7 := n1_w6.below d7
      clear qw6 n0_w6 n1_w6 d7
      go_wp2_with fail
      refine (hLx _ n0_w7).mono ?_
      rintro e w8 ⟨rfl, d8⟩
      have qw8 := (qw7).trans (d8.mono (qw7).size)
      have n0_w8 := n0_w7.below d8
      have n1_w8 := n1_w7.below d8
      clear qw7 n0_w7 n1_w7 d8
      go_wp2_with fail
      refine (hMx _ n0_w8).mono ?_
      rintro e w9 ⟨rfl, d9⟩
      have qw9 := (qw8).trans (d9.mono (qw8).size)
      have n0_w9 := n0_w8.below d9
      have n1_w9 := n1_w8.below d9
      clear qw8 n0_w8 n1_w8 d9
      go_wp2_with fail
      refine (hFx _ n0_w9).mono ?_
      rintro e w10 ⟨a10, c10, rfl, h10, d10⟩
      have qw10 := (qw9).trans (d10.mono (qw9).size)
      have n0_w10 := n0_w9.below d10
      have n1_w10 := n1_w9.below d10
      have fa_w10 := h10
      clear qw9 n0_w9 n1_w9 h10 d10
      go_wp2_with fail
      refine (hGx _ n0_w10).mono ?_
      rintro e w11 ⟨a11, c11, rfl, h11, d11⟩
      have qw11 := (qw10).trans (d11.mono (qw10).size)
      have n0_w11 := n0_w10.below d11
      have n1_w11 := n1_w10.below d11
      have fa_w11 := fa_w10.below d11
      have fb_w11 := h11
      clear qw10 n0_w10 n1_w10 fa_w10 h11 d11
      go_wp2_with fail
      refine (kn_Is _ _ fo fo true (decide_eq_true rfl) _ fa_w11 fb_w11 hfk).mono ?_
      rintro e w12 ⟨rfl, d12⟩
      have qw12 := (qw11).trans (d12.mono (qw11).size)
      have n0_w12 := n0_w11.below d12
      have n1_w12 := n1_w11.below d12
      clear qw11 n0_w11 n1_w11 fa_w11 fb_w11 d12
      go_wp2_with fail
      refine (hWx _ n0_w12).mono ?_
      rintro e w13 ⟨rfl, d13⟩
      have qw13 := (qw12).trans (d13.mono (qw12).size)
      have n0_w13 := n0_w12.below d13
      have n1_w13 := n1_w12.below d13
      clear qw12 n0_w12 n1_w12 d13
      go_wp2_with fail
      refine (hVx _ n0_w13).mono ?_
      rintro e w14 ⟨rfl, d14⟩
      have qw14 := (qw13).trans (d14.mono (qw13).size)
      have n0_w14 := n0_w13.below d14
      have n1_w14 := n1_w13.below d14
      clear qw13 n0_w13 n1_w13 d14
      go_wp2_with fail
      refine (hP _ n1_w14).mono ?_
      rintro e w15 ⟨a15, c15, rfl, h15, d15⟩
      have qw15 := (qw14).trans (d15.mono (qw14).size)
      have n0_w15 := n0_w14.below d15
      have n1_w15 := n1_w14.below d15
      have p_w15 := h15
      clear qw14 n0_w14 n1_w14 h15 d15
      go_wp2_with fail
      refine (kn_Is _ _ x0 x0 true (decide_eq_true rfl) _ p_w15 n0_w15 g0).mono ?_
      rintro e w16 ⟨rfl, d16⟩
      have qw16 := (qw15).trans (d16.mono (qw15).size)
      have n0_w16 := n0_w15.below d16
      have n1_w16 := n1_w15.below d16
      have p_w16 := p_w15.below d16
      clear qw15 n0_w15 n1_w15 p_w15 d16
      go_wp2_with fail
      go_ret
      exact ⟨rfl, qw16⟩
end Go.Proofs.Ytoohhoillblaoaa
