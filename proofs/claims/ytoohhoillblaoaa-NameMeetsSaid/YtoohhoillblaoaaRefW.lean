/-
  The document's names (package toponymref6): Swap.
-/
import Derived.Test.YtoohhoillblaoaaRefV
namespace Go.Proofs.Ytoohhoillblaoaa
open Go.RowKit Go.Shelf

theorem elemS : ElemT 9 22 16 := ⟨Try.underlying22, _, _, rfl, rfl, rfl, rfl, rfl⟩

set_option maxHeartbeats 8000000 in
theorem ref_Swap (v vf vt : Value) (n f t : Nm) (w : World) (hA : NmAt w v n) (hF : NmAt w vf f) (hT : NmAt w vt t) (hk : NmOK n) (hkf : NmOK f) (hkt : NmOK t) (hall : NmOK (n.take (n.length - f.length) ++ t)) :
    Calls Try.prog 37 #[v, vf, vt] w (SwapPost n f t w) := by
  obtain ⟨a, c, rfl, _⟩ := id hA.1
  obtain ⟨af, cf, rfl, _⟩ := id hF.1
  obtain ⟨at', ct, rfl, _⟩ := id hT.1
  have hl := hk.1; have hlf := hkf.1; have hlt := hkt.1
  obtain ⟨a0, n0, c0, e0, hcap, hno⟩ := id hA.2
  cases e0
  have hO2 := hT.2
  have hUn := fun W h1 h2 => ref_Under (.slice a n.length c) (.slice af f.length cf) n f W h1 h2 hk hkf
  by_cases hu : underN n f = true
  · have hge : f.length ≤ n.length := underN_len hu
    have hres : swapN n f t = if checkN (n.take (n.length - f.length) ++ t) = 0 then (n.take (n.length - f.length) ++ t, 0) else ([], 7) := by unfold swapN; rw [if_pos hu]
    have htl : (n.take (n.length - f.length)).length = n.length - f.length := by simp
    have hTk := fun W (h : StrsAt W (.slice a n.length c) n) => strs_take h (n.length - f.length) (by omega) c
    have hdn : n.length - f.length ≤ c := by omega
    generalize hps : n.take (n.length - f.length) = ps at *
    have HR := Lib.hid hres; have HU := Lib.hid hu
    have HPL := Lib.hid htl
    clear hres hps htl
    obtain ⟨q, hq⟩ : ∃ q, checkN (ps ++ t) = q := ⟨_, rfl⟩
    have hCk := fun W v2 (h : OwnG 9 strV W w.heap.size v2 (ps ++ t)) => ref_CheckName v2 (ps ++ t) W (StrsAt.of_own h) hall
    rw [hq] at hCk HR
    have hb0 : ∀ wu, Below w.heap.size w wu → OwnG 9 strV (wu.alloc (.cells #[] 9)) w.heap.size (.slice (some ⟨wu.heap.size, 0, none⟩) 0 0) [] := fun wu hbu => OwnG.lit (T := 9) (enc := strV) wu w.heap.size hbu.size [] (by simp)
    by_cases hq0 : (q != 0) = true
    · have H0 : Hid (swapN n f t = ([], 7)) := Lib.hid (by rw [HR.out, if_neg (by simpa using hq0)])
      clear HR hq
      go_enter Try.func37, Try.ntmps37
      go_wp2_with (first | (go_at_call 30; refine (hUn _ hA hF.1).mono ?_; rintro e wu ⟨rfl, hbu⟩; rw [HU.out]; have hlit := hb0 wu hbu; have hB0 : Below w.heap.size w (wu.alloc (.cells #[] 9)) := hbu.alloc hbu.size _) | (at_builtin; refine wpl_append_s (wu.alloc (.cells #[] 9)) rfl (.tmp 13) (.tmp 20) elemS rfl w.heap.size (.slice (some ⟨wu.heap.size, 0, none⟩) 0 0) [] rfl hlit (.slice a (n.length - f.length) c) ps rfl (hTk _ (hA.1.below hB0)) ⟨_, _, _, rfl, hdn, hno⟩ hB0.size (by have := HPL.out; unfold maxLen; simp; omega) (by have := HPL.out; simp; omega) ?_; intro v1 w1 hown1 hg1; have hB1 : Below w.heap.size w w1 := hB0.grown hg1 hB0.size hlit.base_le) | (at_builtin; refine wpl_append_s w1 rfl (.tmp 21) (.tmp 22) elemS rfl w.heap.size v1 ps rfl hown1 (.slice at' t.length ct) t rfl (hT.1.below hB1) hO2 hB1.size (by have := HPL.out; unfold maxLen; omega) (by have := HPL.out; omega) ?_; intro v2 w2 hown2 hg2; have hB2 : Below w.heap.size w w2 := hB1.grown hg2 hB1.size hown1.base_le) | (go_at_call 13; refine (hCk _ _ hown2).mono ?_; rintro e w3 ⟨rfl, rfl⟩))
      go_ret2
      exact swap_fin [] 7 H0.out rfl (OwnG.nil _ _) hB2
    · have hq1 : (q != 0) = false := by simpa using hq0
      have H0 : Hid (swapN n f t = (ps ++ t, 0)) := Lib.hid (by rw [HR.out, if_pos (by simpa using hq1)])
      clear HR hq hq0
      go_enter Try.func37, Try.ntmps37
      go_wp2_with (first | (go_at_call 30; refine (hUn _ hA hF.1).mono ?_; rintro e wu ⟨rfl, hbu⟩; rw [HU.out]; have hlit := hb0 wu hbu; have hB0 : Below w.heap.size w (wu.alloc (.cells #[] 9)) := hbu.alloc hbu.size _) | (at_builtin; refine wpl_append_s (wu.alloc (.cells #[] 9)) rfl (.tmp 13) (.tmp 20) elemS rfl w.heap.size (.slice (some ⟨wu.heap.size, 0, none⟩) 0 0) [] rfl hlit (.slice a (n.length - f.length) c) ps rfl (hTk _ (hA.1.below hB0)) ⟨_, _, _, rfl, hdn, hno⟩ hB0.size (by have := HPL.out; unfold maxLen; simp; omega) (by have := HPL.out; simp; omega) ?_; intro v1 w1 hown1 hg1; have hB1 : Below w.heap.size w w1 := hB0.grown hg1 hB0.size hlit.base_le) | (at_builtin; refine wpl_append_s w1 rfl (.tmp 21) (.tmp 22) elemS rfl w.heap.size v1 ps rfl hown1 (.slice at' t.length ct) t rfl (hT.1.below hB1) hO2 hB1.size (by have := HPL.out; unfold maxLen; omega) (by have := HPL.out; omega) ?_; intro v2 w2 hown2 hg2; have hB2 : Below w.heap.size w w2 := hB1.grown hg2 hB1.size hown1.base_le) | (go_at_call 13; refine (hCk _ _ hown2).mono ?_; rintro e w3 ⟨rfl, rfl⟩))
      go_ret2
      exact swap_fin (ps ++ t) 0 H0.out rfl hown2 hB2
  · have hu0 : underN n f = false := by simpa using hu
    have H0 : Hid (swapN n f t = ([], 12)) := Lib.hid (by unfold swapN; rw [if_neg hu])
    have HU := Lib.hid hu0; clear hu hu0
    go_enter Try.func37, Try.ntmps37
    go_wp2_with (go_at_call 30; refine (hUn _ hA hF.1).mono ?_; rintro e wu ⟨rfl, hbu⟩; rw [HU.out])
    go_ret2
    exact swap_fin [] 12 H0.out rfl (OwnG.nil _ _) hbu
end Go.Proofs.Ytoohhoillblaoaa
