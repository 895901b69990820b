/-
  NameParts: what stands relative to an origin is that, put ahead of it; with a dot at the end it is whole.
-/
import Derived.Test.YtoohhoillblaoaaLawK2
import Derived.Test.YtoohhoillblaoaaNamY
import Derived.Test.YtoohhoillblaoaaApp2
import Derived.Test.YtoohhoillblaoaaLawNText
import Derived.Lib.PathFns
namespace Go.Proofs.Ytoohhoillblaoaa
open Go.RowKit Go.Shelf

set_option maxRecDepth 100000 in
set_option maxHeartbeats 1000000 in
theorem law2_NameParts (v0 : Value) (x0 : Nm) (v1 : Value) (x1 : Nm)  (w : World) (h0 : NmArg w v0 x0) (h1 : NmArg w v1 x1) :
    Calls Try.prog 9 #[v0, v1] w fun e w' => e = .returned (.bool true) ∧ Below w.heap.size w w' := by
  obtain ⟨k0, r0, rfl, _⟩ := id h0.1.1
  have n0 := h0.1
  obtain ⟨k1, r1, rfl, _⟩ := id h1.1.1
  have n1 := h1.1
  obtain ⟨f0, hf0⟩ : ∃ r, goodN x0 = r := ⟨_, rfl⟩
  cases f0 with
  | false =>
    go_enter Try.func9, Try.ntmps9
    have b0 := Below.refl w.heap.size w
    go_wp2_with fail
    refine (law2_known _).mono ?_
    rintro e w1 ⟨rfl, d1⟩
    have qw1 := (b0).trans (d1.mono (b0).size)
    have n0_w1 := n0.below d1
    have n1_w1 := n1.below d1
    clear b0 n0 n1 d1
    go_wp2_with fail
    refine (kn_Good _ _ false hf0 w _ h0 n0_w1).mono ?_
    rintro e w2 ⟨rfl, d2⟩
    have qw2 := (qw1).trans (d2.mono (qw1).size)
    have n0_w2 := n0_w1.below d2
    have n1_w2 := n1_w1.below d2
    clear qw1 n0_w1 n1_w1 d2
    go_wp2_with fail
    go_ret
    exact ⟨rfl, qw2⟩
  | true =>
    obtain ⟨f1, hf1⟩ : ∃ r, goodN x1 = r := ⟨_, rfl⟩
    cases f1 with
    | false =>
      go_enter Try.func9, Try.ntmps9
      have b0 := Below.refl w.heap.size w
      go_wp2_with fail
      refine (law2_known _).mono ?_
      rintro e w1 ⟨rfl, d1⟩
      have qw1 := (b0).trans (d1.mono (b0).size)
      have n0_w1 := n0.below d1
      have n1_w1 := n1.below d1
      clear b0 n0 n1 d1
      go_wp2_with fail
      refine (kn_Good _ _ true hf0 w _ h0 n0_w1).mono ?_
      rintro e w2 ⟨rfl, d2⟩
      have qw2 := (qw1).trans (d2.mono (qw1).size)
      have n0_w2 := n0_w1.below d2
      have n1_w2 := n1_w1.below d2
      clear qw1 n0_w1 n1_w1 d2
      go_wp2_with fail
      refine (kn_Good _ _ false hf1 w _ h1 n1_w2).mono ?_
      rintro e w3 ⟨rfl, d3⟩
      have qw3 := (qw2).trans (d3.mono (qw2).size)
      have n0_w3 := n0_w2.below d3
      have n1_w3 := n1_w2.below d3
      clear qw2 n0_w2 n1_w2 d3
      go_wp2_with fail
      go_ret
      exact ⟨rfl, qw3⟩
    | true =>
      by_cases hx : x0 = []
      · subst hx
        go_enter Try.func9, Try.ntmps9
        have b0 := Below.refl w.heap.size w
        go_wp2_with fail
        refine (law2_known _).mono ?_
        rintro e w1 ⟨rfl, d1⟩
        have qw1 := (b0).trans (d1.mono (b0).size)
        have n0_w1 := n0.below d1
        have n1_w1 := n1.below d1
        clear b0 n0 n1 d1
        go_wp2_with fail
        refine (kn_Good _ _ true hf0 w _ h0 n0_w1).mono ?_
        rintro e w2 ⟨rfl, d2⟩
        have qw2 := (qw1).trans (d2.mono (qw1).size)
        have n0_w2 := n0_w1.below d2
        have n1_w2 := n1_w1.below d2
        clear qw1 n0_w1 n1_w1 d2
        go_wp2_with fail
        refine (kn_Good _ _ true hf1 w _ h1 n1_w2).mono ?_
        rintro e w3 ⟨rfl, d3⟩
        have qw3 := (qw2).trans (d3.mono (qw2).size)
        have n0_w3 := n0_w2.below d3
        have n1_w3 := n1_w2.below d3
        clear qw2 n0_w2 n1_w2 d3
        go_wp2_with fail
        go_ret
        exact ⟨rfl, qw3⟩
      have hfa : fewN x0 = true ∧ checkN x0 = 0 := by unfold goodN at hf0; simpa using hf0
      have hfb : fewN x1 = true ∧ checkN x1 = 0 := by unfold goodN at hf1; simpa using hf1
      have g0 := fewN_ok hfa.1
      have g1 := fewN_ok hfb.1
      have z0 : x0.length ≤ 140 := (of_decide_eq_true hfa.1).1
      have z1 : x1.length ≤ 140 := (of_decide_eq_true hfb.1).1
      have hx0 : ((x0.length : Int) == 0) = false := by
        have : x0.length ≠ 0 := fun e => hx (List.eq_nil_of_length_eq_zero e)
        simp; omega
      have htx := text_few hfa.1
      have htd := textN_dot hx
      have hpw := parse_textN hfa.2 x1
      have hpj := parse_joinN hx hfa.2 x1
      have hq3 : checkN (x0 ++ x1) ≠ 0 → checkN (x0 ++ x1) = 3 := checkN_app (checkN_L hfa.2) (checkN_L hfb.2)
      have hall : NmOK (x0 ++ x1) := ⟨by simp; omega, fun x hx => by rcases List.mem_append.1 hx with h | h; (exact g0.2 x h); exact g1.2 x h⟩
      obtain ⟨T, hT0, hTz, hTv⟩ := str_of (textN x0)
      have hTT : (⟨(textN x0).toArray⟩ : ByteArray) = T := ba_ext (by rw [hT0])
      have hTx := fun W h => kn_NText (.slice k0 x0.length r0) x0 _ rfl W h g0
      rw [hTT] at hTx
      have hTs : T.size = (joinL x0).length + 1 := by rw [hTz, htd]; simp
      have hE0 : (T.extract 0 (T.size - 1)).data.toList = joinL x0 := by rw [Lib.Pa.extract_upto, hTs]; simp [hT0, htd]
      have hTne : ((T.size : Int) == 0) = false := by simp only [beq_eq_false_iff_ne, ne_eq]; omega
      have hTne2 : T.size ≠ 0 := by omega
      have hTb : T.size ≤ 500000 := by omega
      have hPw := fun W h => kn_NParse T (.slice k1 x1.length r1) x1 x0 0 _ (by rw [hT0]; exact hpw) rfl W h hTb g1 (by omega)
      obtain ⟨q, hq⟩ : ∃ q, checkN (x0 ++ x1) = q := ⟨_, rfl⟩
      rw [hq] at hpj hq3
      have hEb : (T.extract 0 (T.size - 1)).size ≤ 500000 := by rw [← size_data, hE0]; omega
      have hPj := fun part k (hp : (if q = 0 then x0 ++ x1 else []) = part) (hk : part.length = k) W h => kn_NParse (T.extract 0 (T.size - 1)) (.slice k1 x1.length r1) x1 part q k (by rw [hE0, hpj, hp]) hk W h hEb g1 (by omega)
      have hRc := fun W v h => kn_RCheck v (x0 ++ x1) q hq W h hall
      have HF0 := Lib.hid hf0; have HF1 := Lib.hid hf1
      have hs0 := n0.2; have hs1 := n1.2
      have hlen : (x0 ++ x1).length = x0.length + x1.length := List.length_append
      clear hf0 hf1 hfa hfb hx htx htd hpw hpj hT0 hTz hTv hTT hTs hE0 hEb hq
      by_cases hq0 : (q != 0) = true
      · have hPk := hPj [] 0 (by rw [if_neg (by simpa using hq0)]) rfl
        obtain rfl : q = 3 := hq3 (by simpa using hq0)
        clear hq3 hq0 hPj
        go_enter Try.func9, Try.ntmps9
        have b0 := Below.refl w.heap.size w
        go_wp2_with fail
        refine (law2_known _).mono ?_
        rintro e w1 ⟨rfl, d1⟩
        have qw1 := (b0).trans (d1.mono (b0).size)
        have n0_w1 := n0.below d1
        have n1_w1 := n1.below d1
        clear b0 n0 n1 d1
        go_wp2_with fail
        refine (kn_Good _ x0 true HF0.out w _ h0 n0_w1).mono ?_
        rintro e w2 ⟨rfl, d2⟩
        have qw2 := (qw1).trans (d2.mono (qw1).size)
        have n0_w2 := n0_w1.below d2
        have n1_w2 := n1_w1.below d2
        clear qw1 n0_w1 n1_w1 d2
        go_wp2_with fail
        refine (kn_Good _ x1 true HF1.out w _ h1 n1_w2).mono ?_
        rintro e w3 ⟨rfl, d3⟩
        have qw3 := (qw2).trans (d3.mono (qw2).size)
        have n0_w3 := n0_w2.below d3
        have n1_w3 := n1_w2.below d3
        clear qw2 n0_w2 n1_w2 d3
        go_wp2_with fail
        refine (hTx _ n0_w3).mono ?_
        rintro e w4 ⟨rfl, d4⟩
        have qw4 := (qw3).trans (d4.mono (qw3).size)
        have n0_w4 := n0_w3.below d4
        have n1_w4 := n1_w3.below d4
        clear qw3 n0_w3 n1_w3 d4
        go_wp2_with fail
        refine (hPw _ n1_w4).mono ?_
        rintro e w5 ⟨a5, c5, rfl, h5, d5⟩
        have qw5 := (qw4).trans (d5.mono (qw4).size)
        have n0_w5 := n0_w4.below d5
        have n1_w5 := n1_w4.below d5
        have p_w5 := h5
        clear qw4 n0_w4 n1_w4 h5 d5
        go_wp2_with fail
        refine (hPk _ n1_w5).mono ?_
        rintro e w6 ⟨a6, c6, rfl, h6, d6⟩
        have qw6 := (qw5).trans (d6.mono (qw5).size)
        have n0_w6 := n0_w5.below d6
        have n1_w6 := n1_w5.below d6
        have p_w6 := p_w5.below d6
        have r_w6 := h6
        clear qw5 n0_w5 n1_w5 p_w5 h6 d6
        have hlit := OwnG.lit (T := 9) (enc := strV) w6 w6.heap.size (Nat.le_refl _) [] (by simp)
        have qc : Below w6.heap.size w6 (w6.alloc (.cells #[] 9)) := (Below.refl _ _).alloc (Nat.le_refl _) _
        go_wp2_with (first | (at_builtin; refine wpl_append_s2 (w6.alloc (.cells #[] 9)) rfl (.tmp 47) (.tmp 48) elemS elemNm rfl w6.heap.size (.slice (some ⟨w6.heap.size, 0, none⟩) 0 0) [] rfl hlit (.slice k0 x0.length r0) x0 rfl (n0_w6.alloc _).1 hs0 qc.size (by unfold maxLen; simp; omega) (by simp; omega) ?_; intro va wa hown hga; have qa : Below w6.heap.size w6 wa := qc.grown hga qc.size hlit.base_le; have n1_a : NmAt wa (.slice k1 x1.length r1) x1 := n1_w6.below qa) | (at_builtin; refine wpl_append_s2 wa rfl (.tmp 49) (.tmp 50) elemS elemNm rfl w6.heap.size va ([] ++ x0) rfl hown (.slice k1 x1.length r1) x1 rfl n1_a.1 hs1 qa.size (by unfold maxLen; simp; omega) (by simp; omega) ?_; intro vc wc hown2 hgc; have qd : Below w6.heap.size w6 wc := qa.grown hgc qa.size hown.base_le) | fail)
        have al := hown2.nmAt
        simp only [List.nil_append] at al
        have qw := (qw6).trans (qd.mono (qw6).size)
        have n0_z := n0_w6.below qd
        have n1_z := n1_w6.below qd
        have p_z := p_w6.below qd
        have r_z := r_w6.below qd
        clear hown hown2 hga hgc hlit qa qc qd n1_a qw6 n0_w6 n1_w6 p_w6 r_w6
        refine (hRc _ _ al).mono ?_
        rintro e u7 ⟨rfl, d7⟩
        have qu7 := (qw).trans (d7.mono (qw).size)
        have n0_u7 := n0_z.below d7
        have n1_u7 := n1_z.below d7
        have p_u7 := p_z.below d7
        have r_u7 := r_z.below d7
        have al_u7 := al.below d7
        clear qw n0_z n1_z p_z r_z al d7
        go_wp2_with fail
        go_ret
        exact ⟨rfl, qu7⟩
      have hq1 : q = 0 := by simpa using hq0
      subst hq1
      have hPk := hPj (x0 ++ x1) (x0.length + x1.length) rfl hlen
      clear hq3 hq0 hPj hlen
      go_enter Try.func9, Try.ntmps9
      have b0 := Below.refl w.heap.size w
      go_wp2_with fail
      refine (law2_known _).mono ?_
      rintro e w1 ⟨rfl, d1⟩
      have qw1 := (b0).trans (d1.mono (b0).size)
      have n0_w1 := n0.below d1
      have n1_w1 := n1.below d1
      clear b0 n0 n1 d1
      go_wp2_with fail
      refine (kn_Good _ x0 true HF0.out w _ h0 n0_w1).mono ?_
      rintro e w2 ⟨rfl, d2⟩
      have qw2 := (qw1).trans (d2.mono (qw1).size)
      have n0_w2 := n0_w1.below d2
      have n1_w2 := n1_w1.below d2
      clear qw1 n0_w1 n1_w1 d2
      go_wp2_with fail
      refine (kn_Good _ x1 true HF1.out w _ h1 n1_w2).mono ?_
      rintro e w3 ⟨rfl, d3⟩
      have qw3 := (qw2).trans (d3.mono (qw2).size)
      have n0_w3 := n0_w2.below d3
      have n1_w3 := n1_w2.below d3
      clear qw2 n0_w2 n1_w2 d3
      go_wp2_with fail
      refine (hTx _ n0_w3).mono ?_
      rintro e w4 ⟨rfl, d4⟩
      have qw4 := (qw3).trans (d4.mono (qw3).size)
      have n0_w4 := n0_w3.below d4
      have n1_w4 := n1_w3.below d4
      clear qw3 n0_w3 n1_w3 d4
      go_wp2_with fail
      refine (hPw _ n1_w4).mono ?_
      rintro e w5 ⟨a5, c5, rfl, h5, d5⟩
      have qw5 := (qw4).trans (d5.mono (qw4).size)
      have n0_w5 := n0_w4.below d5
      have n1_w5 := n1_w4.below d5
      have p_w5 := h5
      clear qw4 n0_w4 n1_w4 h5 d5
      go_wp2_with fail
      refine (hPk _ n1_w5).mono ?_
      rintro e w6 ⟨a6, c6, rfl, h6, d6⟩
      have qw6 := (qw5).trans (d6.mono (qw5).size)
      have n0_w6 := n0_w5.below d6
      have n1_w6 := n1_w5.below d6
      have p_w6 := p_w5.below d6
      have r_w6 := h6
      clear qw5 n0_w5 n1_w5 p_w5 h6 d6
      have hlit := OwnG.lit (T := 9) (enc := strV) w6 w6.heap.size (Nat.le_refl _) [] (by simp)
      have qc : Below w6.heap.size w6 (w6.alloc (.cells #[] 9)) := (Below.refl _ _).alloc (Nat.le_refl _) _
      go_wp2_with (first | (at_builtin; refine wpl_append_s2 (w6.alloc (.cells #[] 9)) rfl (.tmp 47) (.tmp 48) elemS elemNm rfl w6.heap.size (.slice (some ⟨w6.heap.size, 0, none⟩) 0 0) [] rfl hlit (.slice k0 x0.length r0) x0 rfl (n0_w6.alloc _).1 hs0 qc.size (by unfold maxLen; simp; omega) (by simp; omega) ?_; intro va wa hown hga; have qa : Below w6.heap.size w6 wa := qc.grown hga qc.size hlit.base_le; have n1_a : NmAt wa (.slice k1 x1.length r1) x1 := n1_w6.below qa) | (at_builtin; refine wpl_append_s2 wa rfl (.tmp 49) (.tmp 50) elemS elemNm rfl w6.heap.size va ([] ++ x0) rfl hown (.slice k1 x1.length r1) x1 rfl n1_a.1 hs1 qa.size (by unfold maxLen; simp; omega) (by simp; omega) ?_; intro vc wc hown2 hgc; have qd : Below w6.heap.size w6 wc := qa.grown hgc qa.size hown.base_le) | fail)
      have al := hown2.nmAt
      simp only [List.nil_append] at al
      have qw := (qw6).trans (qd.mono (qw6).size)
      have n0_z := n0_w6.below qd
      have n1_z := n1_w6.below qd
      have p_z := p_w6.below qd
      have r_z := r_w6.below qd
      clear hown hown2 hga hgc hlit qa qc qd n1_a qw6 n0_w6 n1_w6 p_w6 r_w6
      refine (hRc _ _ al).mono ?_
      rintro e u7 ⟨rfl, d7⟩
      have qu7 := (qw).trans (d7.mono (qw).size)
      have n0_u7 := n0_z.below d7
      have n1_u7 := n1_z.below d7
      have p_u7 := p_z.below d7
      have r_u7 := r_z.below d7
      have al_u7 := al.below d7
      clear qw n0_z n1_z p_z r_z al d7
      go_wp2_with fail
      refine (kn_Is _ _ x0 x0 true (decide_eq_true rfl) _ p_u7 n0_u7 g0).mono ?_
      rintro e u8 ⟨rfl, d8⟩
      have qu8 := (qu7).trans (d8.mono (qu7).size)
      have n0_u8 := n0_u7.below d8
      have n1_u8 := n1_u7.below d8
      have p_u8 := p_u7.below d8
      have r_u8 := r_u7.below d8
      have al_u8 := al_u7.below d8
      clear qu7 n0_u7 n1_u7 p_u7 r_u7 al_u7 d8
      go_wp2_with fail
      refine (kn_Is _ _ (x0 ++ x1) (x0 ++ x1) true (decide_eq_true rfl) _ r_u8 al_u8 hall).mono ?_
      rintro e u9 ⟨rfl, d9⟩
      have qu9 := (qu8).trans (d9.mono (qu8).size)
      have n0_u9 := n0_u8.below d9
      have n1_u9 := n1_u8.below d9
      have p_u9 := p_u8.below d9
      have r_u9 := r_u8.below d9
      have al_u9 := al_u8.below d9
      clear qu8 n0_u8 n1_u8 p_u8 r_u8 al_u8 d9
      go_wp2_with fail
      go_ret
      exact ⟨rfl, qu9⟩
end Go.Proofs.Ytoohhoillblaoaa
