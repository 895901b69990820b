/-
  NameSwap: any name with another end instead of its own, or why not; back again it is what it was.
-/
import Derived.Test.YtoohhoillblaoaaLawK2
import Derived.Test.YtoohhoillblaoaaNamY
namespace Go.Proofs.Ytoohhoillblaoaa
open Go.RowKit Go.Shelf
theorem swap_res {n f t : Nm} (h : (swapN n f t).2 = 0) : (swapN n f t).1 = n.take (n.length - f.length) ++ t := by
  unfold swapN at h ⊢
  split
  · split
    · rfl
    · rename_i h1 h2; rw [if_pos h1, if_neg h2] at h; simp at h
  · rename_i h1; rw [if_neg h1] at h; simp at h
theorem swap_ok {n f t : Nm} (h : NmOK (n.take (n.length - f.length) ++ t)) : NmOK (swapN n f t).1 := by
  unfold swapN
  split
  · split
    · exact h
    · exact ⟨by simp, by simp⟩
  · exact ⟨by simp, by simp⟩

set_option maxRecDepth 100000 in
set_option maxHeartbeats 8000000 in
theorem law2_NameSwap (v0 : Value) (x0 : Nm) (v1 : Value) (x1 : Nm) (v2 : Value) (x2 : Nm)  (w : World) (h0 : NmArg w v0 x0) (h1 : NmArg w v1 x1) (h2 : NmArg w v2 x2) :
    Calls Try.prog 6 #[v0, v1, v2] w fun e w' => e = .returned (.bool true) ∧ Below w.heap.size w w' := by
  obtain ⟨k0, r0, rfl, _⟩ := id h0.1.1
  have n0 := h0.1
  obtain ⟨k1, r1, rfl, _⟩ := id h1.1.1
  have n1 := h1.1
  obtain ⟨k2, r2, rfl, _⟩ := id h2.1.1
  have n2 := h2.1
  obtain ⟨f0, hf0⟩ : ∃ r, fewN x0 = r := ⟨_, rfl⟩
  cases f0 with
  | false =>
    go_enter Try.func6, Try.ntmps6
    have b0 := Below.refl w.heap.size w
    go_wp2_with fail
    refine (law2_known _).mono ?_
    rintro e w1 ⟨rfl, d1⟩
    have qw1 := (b0).trans (d1.mono (b0).size)
    have n0_w1 := n0.below d1
    have n1_w1 := n1.below d1
    have n2_w1 := n2.below d1
    clear b0 n0 n1 n2 d1
    go_wp2_with fail
    refine (kn_Few _ x0 false hf0 w _ h0 n0_w1).mono ?_
    rintro e w2 ⟨rfl, d2⟩
    have qw2 := (qw1).trans (d2.mono (qw1).size)
    have n0_w2 := n0_w1.below d2
    have n1_w2 := n1_w1.below d2
    have n2_w2 := n2_w1.below d2
    clear qw1 n0_w1 n1_w1 n2_w1 d2
    go_wp2_with fail
    go_ret
    exact ⟨rfl, qw2⟩
  | true =>
    obtain ⟨f1, hf1⟩ : ∃ r, fewN x1 = r := ⟨_, rfl⟩
    cases f1 with
    | false =>
      go_enter Try.func6, Try.ntmps6
      have b0 := Below.refl w.heap.size w
      go_wp2_with fail
      refine (law2_known _).mono ?_
      rintro e w1 ⟨rfl, d1⟩
      have qw1 := (b0).trans (d1.mono (b0).size)
      have n0_w1 := n0.below d1
      have n1_w1 := n1.below d1
      have n2_w1 := n2.below d1
      clear b0 n0 n1 n2 d1
      go_wp2_with fail
      refine (kn_Few _ x0 true hf0 w _ h0 n0_w1).mono ?_
      rintro e w2 ⟨rfl, d2⟩
      have qw2 := (qw1).trans (d2.mono (qw1).size)
      have n0_w2 := n0_w1.below d2
      have n1_w2 := n1_w1.below d2
      have n2_w2 := n2_w1.below d2
      clear qw1 n0_w1 n1_w1 n2_w1 d2
      go_wp2_with fail
      refine (kn_Few _ x1 false hf1 w _ h1 n1_w2).mono ?_
      rintro e w3 ⟨rfl, d3⟩
      have qw3 := (qw2).trans (d3.mono (qw2).size)
      have n0_w3 := n0_w2.below d3
      have n1_w3 := n1_w2.below d3
      have n2_w3 := n2_w2.below d3
      clear qw2 n0_w2 n1_w2 n2_w2 d3
      go_wp2_with fail
      go_ret
      exact ⟨rfl, qw3⟩
    | true =>
      obtain ⟨f2, hf2⟩ : ∃ r, fewN x2 = r := ⟨_, rfl⟩
      cases f2 with
      | false =>
        go_enter Try.func6, Try.ntmps6
        have b0 := Below.refl w.heap.size w
        go_wp2_with fail
        refine (law2_known _).mono ?_
        rintro e w1 ⟨rfl, d1⟩
        have qw1 := (b0).trans (d1.mono (b0).size)
        have n0_w1 := n0.below d1
        have n1_w1 := n1.below d1
        have n2_w1 := n2.below d1
        clear b0 n0 n1 n2 d1
        go_wp2_with fail
        refine (kn_Few _ x0 true hf0 w _ h0 n0_w1).mono ?_
        rintro e w2 ⟨rfl, d2⟩
        have qw2 := (qw1).trans (d2.mono (qw1).size)
        have n0_w2 := n0_w1.below d2
        have n1_w2 := n1_w1.below d2
        have n2_w2 := n2_w1.below d2
        clear qw1 n0_w1 n1_w1 n2_w1 d2
        go_wp2_with fail
        refine (kn_Few _ x1 true hf1 w _ h1 n1_w2).mono ?_
        rintro e w3 ⟨rfl, d3⟩
        have qw3 := (qw2).trans (d3.mono (qw2).size)
        have n0_w3 := n0_w2.below d3
        have n1_w3 := n1_w2.below d3
        have n2_w3 := n2_w2.below d3
        clear qw2 n0_w2 n1_w2 n2_w2 d3
        go_wp2_with fail
        refine (kn_Few _ x2 false hf2 w _ h2 n2_w3).mono ?_
        rintro e w4 ⟨rfl, d4⟩
        have qw4 := (qw3).trans (d4.mono (qw3).size)
        have n0_w4 := n0_w3.below d4
        have n1_w4 := n1_w3.below d4
        have n2_w4 := n2_w3.below d4
        clear qw3 n0_w3 n1_w3 n2_w3 d4
        go_wp2_with fail
        go_ret
        exact ⟨rfl, qw4⟩
      | true =>
        have g0 := fewN_ok hf0
        have g1 := fewN_ok hf1
        have g2 := fewN_ok hf2
        have z0 : x0.length ≤ 140 := (of_decide_eq_true hf0).1
        have z1 : x1.length ≤ 140 := (of_decide_eq_true hf1).1
        have z2 : x2.length ≤ 140 := (of_decide_eq_true hf2).1
        have HF0 := Lib.hid hf0; have HF1 := Lib.hid hf1; have HF2 := Lib.hid hf2
        have hall : ∀ y : Nm, NmOK y → y.length ≤ 140 → NmOK (x0.take (x0.length - x1.length) ++ y) := fun y hy hl => ⟨by simp; omega, fun x hx => by rcases List.mem_append.1 hx with h | h; (exact g0.2 x (List.mem_of_mem_take h)); exact hy.2 x h⟩
        have hback := fun h1 h2 => swap_back (n := x0) (f := x1) (t := x2) h1 h2
        have hsw0 : (swapN x0 x1 x2).2 = 0 → (swapN x0 x1 x2).1 = x0.take (x0.length - x1.length) ++ x2 := swap_res
        obtain ⟨⟨s, er⟩, hq⟩ : ∃ q, swapN x0 x1 x2 = q := ⟨_, rfl⟩
        have hso : NmOK s := by have := swap_ok (hall x2 g2 z2); rw [hq] at this; exact this
        have hSa := fun W h k l => kn_NSwap (.slice k0 x0.length r0) (.slice k1 x1.length r1) (.slice k2 x2.length r2) x0 x1 x2 s er _ hq rfl W h k l g0 g1 g2 (hall x2 g2 z2)
        have hSb := fun W h k l => kn_RSwap (.slice k0 x0.length r0) (.slice k1 x1.length r1) (.slice k2 x2.length r2) x0 x1 x2 s er _ hq rfl W h k l g0 g1 g2 (hall x2 g2 z2)
        rw [hq] at hback hsw0
        obtain ⟨ck, hck⟩ : ∃ q, checkN x0 = q := ⟨_, rfl⟩
        have hDx := fun W h => kn_RCheck (.slice k0 x0.length r0) x0 ck hck W h g0
        have HB := Lib.hid hback; have HW := Lib.hid hsw0; have HCK := Lib.hid hck; have HALL := Lib.hid hall
        clear hf0 hf1 hf2 hq hback hsw0 hck hall
        by_cases he : (er != 0) = true
        · go_enter Try.func6, Try.ntmps6
          have b0 := Below.refl w.heap.size w
          go_wp2_with fail
          refine (law2_known _).mono ?_
          rintro e w1 ⟨rfl, d1⟩
          have qw1 := (b0).trans (d1.mono (b0).size)
          have n0_w1 := n0.below d1
          have n1_w1 := n1.below d1
          have n2_w1 := n2.below d1
          clear b0 n0 n1 n2 d1
          go_wp2_with fail
          refine (kn_Few _ x0 true HF0.out w _ h0 n0_w1).mono ?_
          rintro e w2 ⟨rfl, d2⟩
          have qw2 := (qw1).trans (d2.mono (qw1).size)
          have n0_w2 := n0_w1.below d2
          have n1_w2 := n1_w1.below d2
          have n2_w2 := n2_w1.below d2
          clear qw1 n0_w1 n1_w1 n2_w1 d2
          go_wp2_with fail
          refine (kn_Few _ x1 true HF1.out w _ h1 n1_w2).mono ?_
          rintro e w3 ⟨rfl, d3⟩
          have qw3 := (qw2).trans (d3.mono (qw2).size)
          have n0_w3 := n0_w2.below d3
          have n1_w3 := n1_w2.below d3
          have n2_w3 := n2_w2.below d3
          clear qw2 n0_w2 n1_w2 n2_w2 d3
          go_wp2_with fail
          refine (kn_Few _ x2 true HF2.out w _ h2 n2_w3).mono ?_
          rintro e w4 ⟨rfl, d4⟩
          have qw4 := (qw3).trans (d4.mono (qw3).size)
          have n0_w4 := n0_w3.below d4
          have n1_w4 := n1_w3.below d4
          have n2_w4 := n2_w3.below d4
          clear qw3 n0_w3 n1_w3 n2_w3 d4
          go_wp2_with fail
          refine (hSa _ n0_w4 n1_w4 n2_w4).mono ?_
          rintro e w5 ⟨a5, c5, rfl, h5, d5⟩
          have qw5 := (qw4).trans (d5.mono (qw4).size)
          have n0_w5 := n0_w4.below d5
          have n1_w5 := n1_w4.below d5
          have n2_w5 := n2_w4.below d5
          have s_w5 := h5
          clear qw4 n0_w4 n1_w4 n2_w4 h5 d5
          go_wp2_with fail
          refine (hSb _ n0_w5 n1_w5 n2_w5).mono ?_
          rintro e w6 ⟨a6, c6, rfl, h6, d6⟩
          have qw6 := (qw5).trans (d6.mono (qw5).size)
          have n0_w6 := n0_w5.below d6
          have n1_w6 := n1_w5.below d6
          have n2_w6 := n2_w5.below d6
          have s_w6 := s_w5.below d6
          have t_w6 := h6
          clear qw5 n0_w5 n1_w5 n2_w5 s_w5 h6 d6
          go_wp2_with fail
          refine (kn_Is _ _ s s true (decide_eq_true rfl) _ s_w6 t_w6 hso).mono ?_
          rintro e w7 ⟨rfl, d7⟩
          have qw7 := (qw6).trans (d7.mono (qw6).size)
          have n0_w7 := n0_w6.below d7
          have n1_w7 := n1_w6.below d7
          have n2_w7 := n2_w6.below d7
          have s_w7 := s_w6.below d7
          clear qw6 n0_w6 n1_w6 n2_w6 s_w6 t_w6 d7
          go_wp2_with fail
          go_ret
          exact ⟨rfl, qw7⟩
        have he0 : er = 0 := by simpa using he
        subst he0
        clear he
        by_cases hc : (ck != 0) = true
        · go_enter Try.func6, Try.ntmps6
          have b0 := Below.refl w.heap.size w
          go_wp2_with fail
          refine (law2_known _).mono ?_
          rintro e w1 ⟨rfl, d1⟩
          have qw1 := (b0).trans (d1.mono (b0).size)
          have n0_w1 := n0.below d1
          have n1_w1 := n1.below d1
          have n2_w1 := n2.below d1
          clear b0 n0 n1 n2 d1
          go_wp2_with fail
          refine (kn_Few _ x0 true HF0.out w _ h0 n0_w1).mono ?_
          rintro e w2 ⟨rfl, d2⟩
          have qw2 := (qw1).trans (d2.mono (qw1).size)
          have n0_w2 := n0_w1.below d2
          have n1_w2 := n1_w1.below d2
          have n2_w2 := n2_w1.below d2
          clear qw1 n0_w1 n1_w1 n2_w1 d2
          go_wp2_with fail
          refine (kn_Few _ x1 true HF1.out w _ h1 n1_w2).mono ?_
          rintro e w3 ⟨rfl, d3⟩
          have qw3 := (qw2).trans (d3.mono (qw2).size)
          have n0_w3 := n0_w2.below d3
          have n1_w3 := n1_w2.below d3
          have n2_w3 := n2_w2.below d3
          clear qw2 n0_w2 n1_w2 n2_w2 d3
          go_wp2_with fail
          refine (kn_Few _ x2 true HF2.out w _ h2 n2_w3).mono ?_
          rintro e w4 ⟨rfl, d4⟩
          have qw4 := (qw3).trans (d4.mono (qw3).size)
          have n0_w4 := n0_w3.below d4
          have n1_w4 := n1_w3.below d4
          have n2_w4 := n2_w3.below d4
          clear qw3 n0_w3 n1_w3 n2_w3 d4
          go_wp2_with fail
          refine (hSa _ n0_w4 n1_w4 n2_w4).mono ?_
          rintro e w5 ⟨a5, c5, rfl, h5, d5⟩
          have qw5 := (qw4).trans (d5.mono (qw4).size)
          have n0_w5 := n0_w4.below d5
          have n1_w5 := n1_w4.below d5
          have n2_w5 := n2_w4.below d5
          have s_w5 := h5
          clear qw4 n0_w4 n1_w4 n2_w4 h5 d5
          go_wp2_with fail
          refine (hSb _ n0_w5 n1_w5 n2_w5).mono ?_
          rintro e w6 ⟨a6, c6, rfl, h6, d6⟩
          have qw6 := (qw5).trans (d6.mono (qw5).size)
          have n0_w6 := n0_w5.below d6
          have n1_w6 := n1_w5.below d6
          have n2_w6 := n2_w5.below d6
          have s_w6 := s_w5.below d6
          have t_w6 := h6
          clear qw5 n0_w5 n1_w5 n2_w5 s_w5 h6 d6
          go_wp2_with fail
          refine (kn_Is _ _ s s true (decide_eq_true rfl) _ s_w6 t_w6 hso).mono ?_
          rintro e w7 ⟨rfl, d7⟩
          have qw7 := (qw6).trans (d7.mono (qw6).size)
          have n0_w7 := n0_w6.below d7
          have n1_w7 := n1_w6.below d7
          have n2_w7 := n2_w6.below d7
          have s_w7 := s_w6.below d7
          clear qw6 n0_w6 n1_w6 n2_w6 s_w6 t_w6 d7
          go_wp2_with fail
          refine (hDx _ n0_w7).mono ?_
          rintro e w8 ⟨rfl, d8⟩
          have qw8 := (qw7).trans (d8.mono (qw7).size)
          have n0_w8 := n0_w7.below d8
          have n1_w8 := n1_w7.below d8
          have n2_w8 := n2_w7.below d8
          have s_w8 := s_w7.below d8
          clear qw7 n0_w7 n1_w7 n2_w7 s_w7 d8
          go_wp2_with fail
          go_ret
          exact ⟨rfl, qw8⟩
        have hc0 : (ck != 0) = false := by simpa using hc
        obtain ⟨hb1, hb2, hb3⟩ := HB.out rfl (by rw [HCK.out]; simpa using hc0)
        have hs1 := HW.out rfl
        have hsl : s.length ≤ 280 := by simp only at hs1; rw [hs1]; simp; omega
        have htk : s.take (s.length - x2.length) = x0.take (x0.length - x1.length) := by simp only at hs1; rw [hs1, List.length_append, Nat.add_sub_cancel]; exact List.take_left
        obtain ⟨⟨b, eb⟩, hq2⟩ : ∃ q, swapN s x2 x1 = q := ⟨_, rfl⟩
        have hall2 : NmOK (s.take (s.length - x2.length) ++ x1) := by rw [htk]; exact HALL.out x1 g1 z1
        have hbo : NmOK b := by have := swap_ok hall2; rw [hq2] at this; exact this
        simp only at hb1 hb2 hb3
        rw [hq2] at hb2 hb3
        simp only at hb2 hb3
        subst hb2
        have hSc := fun W v h k l => kn_NSwap v (.slice k2 x2.length r2) (.slice k1 x1.length r1) s x2 x1 b 0 _ hq2 rfl W h k l hso g2 g1 hall2
        have hSm := fun W v h k => kn_NSame v (.slice k0 x0.length r0) b x0 true hb3 W h k hbo g0
        have hUn := fun W v h k => kn_NUnder v (.slice k2 x2.length r2) s x2 true hb1 W h k hso g2
        clear hs1 hsl htk hall2 hq2 hb1 hb3 hc HB HW HCK HALL
        go_enter Try.func6, Try.ntmps6
        have b0 := Below.refl w.heap.size w
        go_wp2_with fail
        refine (law2_known _).mono ?_
        rintro e w1 ⟨rfl, d1⟩
        have qw1 := (b0).trans (d1.mono (b0).size)
        have n0_w1 := n0.below d1
        have n1_w1 := n1.below d1
        have n2_w1 := n2.below d1
        clear b0 n0 n1 n2 d1
        go_wp2_with fail
        refine (kn_Few _ x0 true HF0.out w _ h0 n0_w1).mono ?_
        rintro e w2 ⟨rfl, d2⟩
        have qw2 := (qw1).trans (d2.mono (qw1).size)
        have n0_w2 := n0_w1.below d2
        have n1_w2 := n1_w1.below d2
        have n2_w2 := n2_w1.below d2
        clear qw1 n0_w1 n1_w1 n2_w1 d2
        go_wp2_with fail
        refine (kn_Few _ x1 true HF1.out w _ h1 n1_w2).mono ?_
        rintro e w3 ⟨rfl, d3⟩
        have qw3 := (qw2).trans (d3.mono (qw2).size)
        have n0_w3 := n0_w2.below d3
        have n1_w3 := n1_w2.below d3
        have n2_w3 := n2_w2.below d3
        clear qw2 n0_w2 n1_w2 n2_w2 d3
        go_wp2_with fail
        refine (kn_Few _ x2 true HF2.out w _ h2 n2_w3).mono ?_
        rintro e w4 ⟨rfl, d4⟩
        have qw4 := (qw3).trans (d4.mono (qw3).size)
        have n0_w4 := n0_w3.below d4
        have n1_w4 := n1_w3.below d4
        have n2_w4 := n2_w3.below d4
        clear qw3 n0_w3 n1_w3 n2_w3 d4
        go_wp2_with fail
        refine (hSa _ n0_w4 n1_w4 n2_w4).mono ?_
        rintro e w5 ⟨a5, c5, rfl, h5, d5⟩
        have qw5 := (qw4).trans (d5.mono (qw4).size)
        have n0_w5 := n0_w4.below d5
        have n1_w5 := n1_w4.below d5
        have n2_w5 := n2_w4.below d5
        have s_w5 := h5
        clear qw4 n0_w4 n1_w4 n2_w4 h5 d5
        go_wp2_with fail
        refine (hSb _ n0_w5 n1_w5 n2_w5).mono ?_
        rintro e w6 ⟨a6, c6, rfl, h6, d6⟩
        have qw6 := (qw5).trans (d6.mono (qw5).size)
        have n0_w6 := n0_w5.below d6
        have n1_w6 := n1_w5.below d6
        have n2_w6 := n2_w5.below d6
        have s_w6 := s_w5.below d6
        have t_w6 := h6
        clear qw5 n0_w5 n1_w5 n2_w5 s_w5 h6 d6
        go_wp2_with fail
        refine (kn_Is _ _ s s true (decide_eq_true rfl) _ s_w6 t_w6 hso).mono ?_
        rintro e w7 ⟨rfl, d7⟩
        have qw7 := (qw6).trans (d7.mono (qw6).size)
        have n0_w7 := n0_w6.below d7
        have n1_w7 := n1_w6.below d7
        have n2_w7 := n2_w6.below d7
        have s_w7 := s_w6.below d7
        clear qw6 n0_w6 n1_w6 n2_w6 s_w6 t_w6 d7
        go_wp2_with fail
        refine (hDx _ n0_w7).mono ?_
        rintro e w8 ⟨rfl, d8⟩
        have qw8 := (qw7).trans (d8.mono (qw7).size)
        have n0_w8 := n0_w7.below d8
        have n1_w8 := n1_w7.below d8
        have n2_w8 := n2_w7.below d8
        have s_w8 := s_w7.below d8
        clear qw7 n0_w7 n1_w7 n2_w7 s_w7 d8
        go_wp2_with fail
        refine (hSc _ _ s_w8 n2_w8 n1_w8).mono ?_
        rintro e w9 ⟨a9, c9, rfl, h9, d9⟩
        have qw9 := (qw8).trans (d9.mono (qw8).size)
        have n0_w9 := n0_w8.below d9
        have n1_w9 := n1_w8.below d9
        have n2_w9 := n2_w8.below d9
        have s_w9 := s_w8.below d9
        have b_w9 := h9
        clear qw8 n0_w8 n1_w8 n2_w8 s_w8 h9 d9
        go_wp2_with fail
        refine (hSm _ _ b_w9 n0_w9).mono ?_
        rintro e w10 ⟨rfl, d10⟩
        have qw10 := (qw9).trans (d10.mono (qw9).size)
        have n0_w10 := n0_w9.below d10
        have n1_w10 := n1_w9.below d10
        have n2_w10 := n2_w9.below d10
        have s_w10 := s_w9.below d10
        have b_w10 := b_w9.below d10
        clear qw9 n0_w9 n1_w9 n2_w9 s_w9 b_w9 d10
        go_wp2_with fail
        refine (hUn _ _ s_w10 n2_w10).mono ?_
        rintro e w11 ⟨rfl, d11⟩
        have qw11 := (qw10).trans (d11.mono (qw10).size)
        have n0_w11 := n0_w10.below d11
        have n1_w11 := n1_w10.below d11
        have n2_w11 := n2_w10.below d11
        have s_w11 := s_w10.below d11
        have b_w11 := b_w10.below d11
        clear qw10 n0_w10 n1_w10 n2_w10 s_w10 b_w10 d11
        go_wp2_with fail
        go_ret
        exact ⟨rfl, qw11⟩
end Go.Proofs.Ytoohhoillblaoaa
