/-
  NameMeets: where two names meet both are below, and nothing deeper has both.
-/
import Derived.Test.YtoohhoillblaoaaLawK2
import Derived.Test.YtoohhoillblaoaaNamY
import Derived.Test.YtoohhoillblaoaaRefU
namespace Go.Proofs.Ytoohhoillblaoaa
open Go.RowKit Go.Shelf

set_option maxRecDepth 100000 in
set_option maxHeartbeats 8000000 in
theorem law2_NameMeets (v0 : Value) (x0 : Nm) (v1 : Value) (x1 : Nm)  (w : World) (h0 : NmArg w v0 x0) (h1 : NmArg w v1 x1) :
    Calls Try.prog 10 #[v0, v1] w fun e w' => e = .returned (.bool true) ∧ Below w.heap.size w w' := by
  obtain ⟨k0, r0, rfl, _⟩ := id h0.1.1
  have n0 := h0.1
  obtain ⟨k1, r1, rfl, _⟩ := id h1.1.1
  have n1 := h1.1
  obtain ⟨f0, hf0⟩ : ∃ r, fewN x0 = r := ⟨_, rfl⟩
  cases f0 with
  | false =>
    go_enter Try.func10, Try.ntmps10
    have b0 := Below.refl w.heap.size w
    go_wp2_with fail
    refine (law2_known _).mono ?_
    rintro e w1 ⟨rfl, d1⟩
    have qw1 := (b0).trans (d1.mono (b0).size)
    have n0_w1 := n0.below d1
    have n1_w1 := n1.below d1
    clear b0 n0 n1 d1
    go_wp2_with fail
    refine (kn_Few _ x0 false hf0 w _ h0 n0_w1).mono ?_
    rintro e w2 ⟨rfl, d2⟩
    have qw2 := (qw1).trans (d2.mono (qw1).size)
    have n0_w2 := n0_w1.below d2
    have n1_w2 := n1_w1.below d2
    clear qw1 n0_w1 n1_w1 d2
    go_wp2_with fail
    go_ret
    exact ⟨rfl, qw2⟩
  | true =>
    obtain ⟨f1, hf1⟩ : ∃ r, fewN x1 = r := ⟨_, rfl⟩
    cases f1 with
    | false =>
      go_enter Try.func10, Try.ntmps10
      have b0 := Below.refl w.heap.size w
      go_wp2_with fail
      refine (law2_known _).mono ?_
      rintro e w1 ⟨rfl, d1⟩
      have qw1 := (b0).trans (d1.mono (b0).size)
      have n0_w1 := n0.below d1
      have n1_w1 := n1.below d1
      clear b0 n0 n1 d1
      go_wp2_with fail
      refine (kn_Few _ x0 true hf0 w _ h0 n0_w1).mono ?_
      rintro e w2 ⟨rfl, d2⟩
      have qw2 := (qw1).trans (d2.mono (qw1).size)
      have n0_w2 := n0_w1.below d2
      have n1_w2 := n1_w1.below d2
      clear qw1 n0_w1 n1_w1 d2
      go_wp2_with fail
      refine (kn_Few _ x1 false hf1 w _ h1 n1_w2).mono ?_
      rintro e w3 ⟨rfl, d3⟩
      have qw3 := (qw2).trans (d3.mono (qw2).size)
      have n0_w3 := n0_w2.below d3
      have n1_w3 := n1_w2.below d3
      clear qw2 n0_w2 n1_w2 d3
      go_wp2_with fail
      go_ret
      exact ⟨rfl, qw3⟩
    | true =>
      have g0 := fewN_ok hf0
      have g1 := fewN_ok hf1
      have HF0 := Lib.hid hf0; have HF1 := Lib.hid hf1
      have z0 : x0.length ≤ 140 := (of_decide_eq_true hf0).1
      have z1 : x1.length ≤ 140 := (of_decide_eq_true hf1).1
      have hl := sharedR_le x0.reverse x1.reverse
      simp only [List.length_reverse] at hl
      rw [← common_len] at hl
      have hu0 := common_under_a x0 x1
      have hu1 := common_under_b x0 x1
      have hdp := common_deepest x0 x1
      have hco : NmOK (commonN x0 x1) := ⟨by omega, fun x hx => g0.2 x (List.mem_of_mem_drop hx)⟩
      obtain ⟨m, hm⟩ : ∃ m, (commonN x0 x1).length = m := ⟨_, rfl⟩
      rw [hm] at hl hdp
      have hCo := fun W h k => kn_NCommon (.slice k0 x0.length r0) (.slice k1 x1.length r1) x0 x1 (commonN x0 x1) m rfl hm W h k g0 g1
      have hUa := fun W v h k => kn_NUnder (.slice k0 x0.length r0) v x0 (commonN x0 x1) true hu0 W h k g0 hco
      have hUb := fun W v h k => kn_NUnder (.slice k1 x1.length r1) v x1 (commonN x0 x1) true hu1 W h k g1 hco
      obtain ⟨hl0, hl1⟩ := hl
      clear hf0 hf1 hu0 hu1 hm
      generalize commonN x0 x1 = cm at *
      by_cases he : m = x0.length
      · subst he
        clear hdp
        go_enter Try.func10, Try.ntmps10
        have b0 := Below.refl w.heap.size w
        go_wp2_with fail
        refine (law2_known _).mono ?_
        rintro e w1 ⟨rfl, d1⟩
        have qw1 := (b0).trans (d1.mono (b0).size)
        have n0_w1 := n0.below d1
        have n1_w1 := n1.below d1
        clear b0 n0 n1 d1
        go_wp2_with fail
        refine (kn_Few _ x0 true HF0.out w _ h0 n0_w1).mono ?_
        rintro e w2 ⟨rfl, d2⟩
        have qw2 := (qw1).trans (d2.mono (qw1).size)
        have n0_w2 := n0_w1.below d2
        have n1_w2 := n1_w1.below d2
        clear qw1 n0_w1 n1_w1 d2
        go_wp2_with fail
        refine (kn_Few _ x1 true HF1.out w _ h1 n1_w2).mono ?_
        rintro e w3 ⟨rfl, d3⟩
        have qw3 := (qw2).trans (d3.mono (qw2).size)
        have n0_w3 := n0_w2.below d3
        have n1_w3 := n1_w2.below d3
        clear qw2 n0_w2 n1_w2 d3
        go_wp2_with fail
        refine (hCo _ n0_w3 n1_w3).mono ?_
        rintro e w4 ⟨a4, c4, rfl, h4, d4⟩
        have qw4 := (qw3).trans (d4.mono (qw3).size)
        have n0_w4 := n0_w3.below d4
        have n1_w4 := n1_w3.below d4
        have c_w4 := h4
        clear qw3 n0_w3 n1_w3 h4 d4
        go_wp2_with fail
        refine (hUa _ _ n0_w4 c_w4).mono ?_
        rintro e w5 ⟨rfl, d5⟩
        have qw5 := (qw4).trans (d5.mono (qw4).size)
        have n0_w5 := n0_w4.below d5
        have n1_w5 := n1_w4.below d5
        have c_w5 := c_w4.below d5
        clear qw4 n0_w4 n1_w4 c_w4 d5
        go_wp2_with fail
        refine (hUb _ _ n1_w5 c_w5).mono ?_
        rintro e w6 ⟨rfl, d6⟩
        have qw6 := (qw5).trans (d6.mono (qw5).size)
        have n0_w6 := n0_w5.below d6
        have n1_w6 := n1_w5.below d6
        have c_w6 := c_w5.below d6
        clear qw5 n0_w5 n1_w5 c_w5 d6
        go_wp2_with fail
        go_ret
        exact ⟨rfl, qw6⟩
      have hlt : m < x0.length := by omega
      clear he
      obtain ⟨_, _, _, e9, hcap, _⟩ := id n0.2
      cases e9
      have hd : underN x1 (x0.drop (x0.length - m - 1)) = false := by
        cases h : underN x1 (x0.drop (x0.length - m - 1)) with
        | false => rfl
        | true => have := hdp (m + 1) (by omega) (by rw [show x0.length - (m + 1) = x0.length - m - 1 by omega]; exact h); omega
      have hne : ¬ (r0 = x0.length - m - 1) := by omega
      have hm0 : m ≠ x0.length := by omega
      have hdk : NmOK (x0.drop (x0.length - m - 1)) := ⟨by simp only [List.length_drop]; omega, fun x hx => g0.2 x (List.mem_of_mem_drop hx)⟩
      have hUc := fun W v h k => kn_NUnder (.slice k1 x1.length r1) v x1 _ false hd W h k g1 hdk
      have hD : ∀ W, NmAt W (.slice k0 x0.length r0) x0 → ∃ g off, k0 = some ⟨g, off, none⟩ ∧ NmAt W (.slice (some ⟨g, off + (x0.length - m - 1), none⟩) (x0.length - (x0.length - m - 1)) (r0 - (x0.length - m - 1))) (x0.drop (x0.length - m - 1)) := fun W h => by
        rcases nm_drop h (d := x0.length - m - 1) (by omega) with ⟨_, e, _, _⟩ | ⟨_, _, e, _⟩ | ⟨g, off, e, hD⟩
        · exfalso; rw [e] at hlt; simp at hlt
        · exfalso; rw [e] at hlt; simp at hlt
        · rw [if_neg hne] at hD; exact ⟨g, off, e, hD⟩
      obtain ⟨g, off, rfl, _⟩ := hD w n0
      have hD2 : ∀ W, NmAt W (.slice (some ⟨g, off, none⟩) x0.length r0) x0 → NmAt W (.slice (some ⟨g, off + (x0.length - m - 1), none⟩) (x0.length - (x0.length - m - 1)) (r0 - (x0.length - m - 1))) (x0.drop (x0.length - m - 1)) := fun W h => by
        obtain ⟨g', off', e, hD⟩ := hD W h
        cases e; exact hD
      clear hD hdp hd
      go_enter Try.func10, Try.ntmps10
      have b0 := Below.refl w.heap.size w
      go_wp2_with fail
      refine (law2_known _).mono ?_
      rintro e w1 ⟨rfl, d1⟩
      have qw1 := (b0).trans (d1.mono (b0).size)
      have n0_w1 := n0.below d1
      have n1_w1 := n1.below d1
      clear b0 n0 n1 d1
      go_wp2_with fail
      refine (kn_Few _ x0 true HF0.out w _ h0 n0_w1).mono ?_
      rintro e w2 ⟨rfl, d2⟩
      have qw2 := (qw1).trans (d2.mono (qw1).size)
      have n0_w2 := n0_w1.below d2
      have n1_w2 := n1_w1.below d2
      clear qw1 n0_w1 n1_w1 d2
      go_wp2_with fail
      refine (kn_Few _ x1 true HF1.out w _ h1 n1_w2).mono ?_
      rintro e w3 ⟨rfl, d3⟩
      have qw3 := (qw2).trans (d3.mono (qw2).size)
      have n0_w3 := n0_w2.below d3
      have n1_w3 := n1_w2.below d3
      clear qw2 n0_w2 n1_w2 d3
      go_wp2_with fail
      refine (hCo _ n0_w3 n1_w3).mono ?_
      rintro e w4 ⟨a4, c4, rfl, h4, d4⟩
      have qw4 := (qw3).trans (d4.mono (qw3).size)
      have n0_w4 := n0_w3.below d4
      have n1_w4 := n1_w3.below d4
      have c_w4 := h4
      clear qw3 n0_w3 n1_w3 h4 d4
      go_wp2_with fail
      refine (hUa _ _ n0_w4 c_w4).mono ?_
      rintro e w5 ⟨rfl, d5⟩
      have qw5 := (qw4).trans (d5.mono (qw4).size)
      have n0_w5 := n0_w4.below d5
      have n1_w5 := n1_w4.below d5
      have c_w5 := c_w4.below d5
      clear qw4 n0_w4 n1_w4 c_w4 d5
      go_wp2_with fail
      refine (hUb _ _ n1_w5 c_w5).mono ?_
      rintro e w6 ⟨rfl, d6⟩
      have qw6 := (qw5).trans (d6.mono (qw5).size)
      have n0_w6 := n0_w5.below d6
      have n1_w6 := n1_w5.below d6
      have c_w6 := c_w5.below d6
      clear qw5 n0_w5 n1_w5 c_w5 d6
      go_wp2_with fail
      refine (hUc _ _ n1_w6 (hD2 _ n0_w6)).mono ?_
      rintro e wz ⟨rfl, dz⟩
      have qz := (qw6).trans (dz.mono (qw6).size)
      go_wp2_with fail
      go_ret
      exact ⟨rfl, qz⟩
end Go.Proofs.Ytoohhoillblaoaa
