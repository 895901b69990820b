/-
  The statements' own helper of layer 2: Is.
-/
import Derived.Test.YtkjmghnbcnbdbaaGreatDoorMQ20
namespace Go.Proofs.YtkjmghnbcnbdbaaGreatDoor
set_option maxRecDepth 20000
open Go.RowKit Go.Shelf

set_option maxHeartbeats 4000000 in
theorem law2_Is (v u : Value) (xs ys : Nm) (w : World) (hA : StrsAt w v xs) (hU : StrsAt w u ys) (hm : xs.length ≤ 4611686018427387904) :
    Calls Tryz.prog 55 #[v, u] w fun e w' => e = .returned (.bool (decide (xs = ys))) ∧ Below w.heap.size w w' := by
  obtain ⟨a, c, rfl, _⟩ := id hA
  obtain ⟨a2, c2, rfl, _⟩ := id hU
  by_cases hne : ((xs.length : Int) != (ys.length : Int)) = true
  · have H0 : Hid (decide (xs = ys) = false) := Lib.hid (decide_eq_false (by intro e; rw [e] at hne; simp at hne))
    go_enter Tryz.func55, Tryz.ntmps55
    go_wp2
    go_ret
    exact ⟨by rw [H0.out]; rfl, Below.refl _ _⟩
  have hlen : ((xs.length : Int) != (ys.length : Int)) = false := by simpa using hne
  have hel : xs.length = ys.length := by simp at hlen; omega
  have hcell := fun W' (hb : Below w.heap.size w W') j hj => hA.cell hb j hj
  have hcell2 := fun W' (hb : Below w.heap.size w W') j hj => hU.cell hb j hj
  have HE := Lib.hid hel
  obtain ⟨n, hn⟩ : ∃ n, xs.length = n := ⟨_, rfl⟩
  have hn2 : ys.length = n := by omega
  rw [hn] at hm ⊢
  rw [hn2]
  have HN := Lib.hid hn; have HN2 := Lib.hid hn2
  clear hA hU hel hne hlen hn hn2
  have hnn : ((n : Int) != (n : Int)) = false := by simp
  go_enter Tryz.func55, Tryz.ntmps55
  go_wp2
  go_loopw [5] (fun i wr => ∃ k : Nat, i = .int .i64 k ∧ k ≤ n ∧ Hid (xs.take k = ys.take k) ∧ Below w.heap.size w wr) (fun i _ => n - (intOf i).toNat)
  case atStart => exact ⟨0, rfl, Nat.zero_le _, Lib.hid rfl, Below.refl _ _⟩
  case round =>
    obtain ⟨k, rfl, hkn, HC, hB⟩ := hrel
    by_cases hlt : k < n
    · have hkp : k < xs.length := by rw [HN.out]; exact hlt
      have hkq : k < ys.length := by rw [HN2.out]; exact hlt
      obtain ⟨g, off, rfl, hg, hc⟩ := hcell wr hB k hkp
      obtain ⟨g2, off2, rfl, hg2, hc2⟩ := hcell2 wr hB k hkq
      obtain ⟨s, hs0, hsz, hsv⟩ := str_of xs[k]
      obtain ⟨t, ht0, htz, htv⟩ := str_of ys[k]
      rw [hsv] at hc
      rw [htv] at hc2
      by_cases hq : s = t
      · have HC2 : Hid (xs.take (k + 1) = ys.take (k + 1)) := Lib.hid (by
          rw [List.take_succ_eq_append_getElem hkp, List.take_succ_eq_append_getElem hkq, HC.out, ← hs0, ← ht0, hq])
        subst hq
        clear hs0 hsz hsv ht0 htz htv
        go_wp2
        go_quiet (fail)
        go_wp2
        go_roundw
        case rel => exact ⟨k + 1, by go_num, by omega, HC2, below_drewQ hB _⟩
        case measure => simp [intOf]; omega
      · have H0 : Hid (decide (xs = ys) = false) := Lib.hid (decide_eq_false (by
          intro e; apply hq; apply ba_ext; rw [hs0, ht0]; simp only [e]))
        have hq2 : (s.toList == t.toList) = false := by
          rw [toList_data, toList_data]; simp only [beq_eq_false_iff_ne, ne_eq]; exact fun e => hq (ba_ext e)
        clear hs0 hsz hsv ht0 htz htv
        go_wp2
        go_quiet (fail)
        go_wp2
        go_ret
        exact ⟨by rw [H0.out]; rfl, below_drewQ hB _⟩
    · obtain rfl : k = n := by omega
      have H0 : Hid (decide (xs = ys) = true) := Lib.hid (decide_eq_true (by
        have h := HC.out
        rwa [List.take_of_length_le (by rw [HN.out]; exact Nat.le_refl _), List.take_of_length_le (by rw [HN2.out]; exact Nat.le_refl _)] at h))
      go_wp2
      go_ret
      exact ⟨by rw [H0.out]; rfl, hB⟩
end Go.Proofs.YtkjmghnbcnbdbaaGreatDoor

/-
  The statements' own helper of layer 2: Good.
-/
namespace Go.Proofs.YtkjmghnbcnbdbaaGreatDoor
set_option maxRecDepth 20000
open Go.RowKit Go.Shelf

def goodN (xs : Nm) : Bool := fewN xs && decide (checkN xs = 0)
set_option maxHeartbeats 4000000 in
theorem law2_Good (v : Value) (xs : Nm) (w : World) (hA : StrsAt w v xs) (hm : xs.length ≤ maxLen) (hk : ∀ x ∈ xs, x.length ≤ maxLen) :
    Calls Tryz.prog 17 #[v] w fun e w' => e = .returned (.bool (goodN xs)) ∧ w' = w := by
  have hF := law2_Few v xs w hA hm hk
  obtain ⟨a, c, rfl, _⟩ := id hA
  by_cases hf : fewN xs = true
  · have hC := ref_CheckName _ xs w hA (fewN_ok hf)
    have hg : goodN xs = decide (checkN xs = 0) := by unfold goodN; rw [hf, Bool.true_and]
    rw [hf] at hF
    have HG := Lib.hid hg
    clear hg hf hm hk hA
    generalize checkN xs = q at *
    go_enter Tryz.func17, Tryz.ntmps17
    go_wp2_with (first | (go_at_call 22; refine hF.mono ?_; rintro e w2 ⟨rfl, rfl⟩) | (go_at_call 24; refine hC.mono ?_; rintro e w3 ⟨rfl, rfl⟩))
    go_ret
    refine ⟨?_, rfl⟩
    rw [HG.out]
    show Ending.returned (.bool (q == 0)) = _
    rw [show (q == 0) = decide (q = 0) from rfl]
  · have hf0 : fewN xs = false := by simpa using hf
    have hg : goodN xs = false := by unfold goodN; rw [hf0, Bool.false_and]
    rw [hf0] at hF
    have HG := Lib.hid hg
    clear hg hf hf0 hm hk hA
    go_enter Tryz.func17, Tryz.ntmps17
    go_wp2_with (go_at_call 22; refine hF.mono ?_; rintro e w2 ⟨rfl, rfl⟩)
    go_ret
    exact ⟨by rw [HG.out]; rfl, rfl⟩
end Go.Proofs.YtkjmghnbcnbdbaaGreatDoor

