/-
  The statements' own helper of layer 2: Good.
-/
import Derived.Test.YtoohhoillblaoaaRefS
namespace Go.Proofs.Ytoohhoillblaoaa
open Go.RowKit Go.Shelf

def goodN (xs : Nm) : Bool := fewN xs && decide (checkN xs = 0)
set_option maxHeartbeats 4000000 in
theorem law2_Good (v : Value) (xs : Nm) (w : World) (hA : StrsAt w v xs) (hm : xs.length ≤ maxLen) (hk : ∀ x ∈ xs, x.length ≤ maxLen) :
    Calls Try.prog 40 #[v] w fun e w' => e = .returned (.bool (goodN xs)) ∧ w' = w := by
  have hF := law2_Few v xs w hA hm hk
  obtain ⟨a, c, rfl, _⟩ := id hA
  by_cases hf : fewN xs = true
  · have hC := ref_CheckName _ xs w hA (fewN_ok hf)
    have hg : goodN xs = decide (checkN xs = 0) := by unfold goodN; rw [hf, Bool.true_and]
    rw [hf] at hF
    have HG := Lib.hid hg
    clear hg hf hm hk hA
    generalize checkN xs = q at *
    go_enter Try.func40, Try.ntmps40
    go_wp2_with (first | (go_at_call 12; refine hF.mono ?_; rintro e w2 ⟨rfl, rfl⟩) | (go_at_call 13; refine hC.mono ?_; rintro e w3 ⟨rfl, rfl⟩))
    go_ret
    refine ⟨?_, rfl⟩
    rw [HG.out]
    show Ending.returned (.bool (q == 0)) = _
    rw [show (q == 0) = decide (q = 0) from rfl]
  · have hf0 : fewN xs = false := by simpa using hf
    have hg : goodN xs = false := by unfold goodN; rw [hf0, Bool.false_and]
    rw [hf0] at hF
    have HG := Lib.hid hg
    clear hg hf hf0 hm hk hA
    go_enter Try.func40, Try.ntmps40
    go_wp2_with (go_at_call 12; refine hF.mono ?_; rintro e w2 ⟨rfl, rfl⟩)
    go_ret
    exact ⟨by rw [HG.out]; rfl, rfl⟩
end Go.Proofs.Ytoohhoillblaoaa
