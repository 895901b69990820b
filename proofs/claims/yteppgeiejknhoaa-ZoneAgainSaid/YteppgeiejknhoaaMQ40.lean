/-
  rdata.readAddress, rdata.readGroups.
-/
import Derived.Test.YteppgeiejknhoaaMQ08
import Derived.Test.YteppgeiejknhoaaMQ30
import Derived.Test.YteppgeiejknhoaaMQ16
namespace Go.Proofs.Yteppgeiejknhoaa
set_option maxRecDepth 20000
open Go.RowKit Go.Shelf

def CellsS (a : Option Addr) (ps : Nm) (W : World) : Prop := ∀ W', Below W.heap.size W W' → ∀ j (hj : j < ps.length), ∃ b off, a = some ⟨b, off, none⟩ ∧ b < W.heap.size ∧ W'.cell? ⟨b, off + j, none⟩ = some (strV ps[j])
theorem splitAtU_len (c : UInt8) : ∀ (s : List UInt8), (splitAtU c s).length ≤ s.length + 1 ∧ ∀ x ∈ splitAtU c s, x.length ≤ s.length
  | [] => by simp [splitAtU]
  | b :: r => by
    obtain ⟨h1, h2⟩ := splitAtU_len c r
    by_cases h : b = c
    · have e : splitAtU c (b :: r) = [] :: splitAtU c r := by rw [splitAtU, if_pos h]
      rw [e]
      refine ⟨by simp; omega, fun x hx => ?_⟩
      rcases List.mem_cons.1 hx with rfl | hx
      · simp
      · have := h2 x hx; simp; omega
    · have e : splitAtU c (b :: r) = match splitAtU c r with | [] => [[b]] | x :: t => (b :: x) :: t := by rw [splitAtU, if_neg h]; cases splitAtU c r <;> rfl
      rw [e]
      cases hs : splitAtU c r with
      | nil => simp
      | cons x t =>
        rw [hs] at h1 h2
        refine ⟨by simp at h1 ⊢; omega, fun y hy => ?_⟩
        rcases List.mem_cons.1 hy with rfl | hy
        · have := h2 x (by simp); simp; omega
        · have := h2 y (by simp [hy]); simp; omega
theorem addrs_err {p : List UInt8} {r : Nm} (h : (numM p 255).2 ≠ 0) : addrsM (p :: r) = ([], (numM p 255).2) := by rw [addrsM, if_pos h]
theorem addrs_ok {p : List UInt8} {r : Nm} (h : (numM p 255).2 = 0) : addrsM (p :: r) = join [UInt8.ofNat (numM p 255).1] (addrsM r) := by
  rw [addrsM, if_neg (by simpa using h)]; unfold join; rfl
theorem addrs_nil (l : Nm) : addrsM l = join [] (addrsM l) := by
  unfold join
  induction l with
  | nil => rfl
  | cons p r _ =>
    by_cases h : (numM p 255).2 = 0
    · rw [addrs_ok h]
      unfold join
      by_cases h2 : (addrsM r).2 = 0
      · simp [h2]
      · simp [h2]
    · rw [addrs_err h, if_neg h]

theorem numM_le (l : List UInt8) (most : Nat) : (numM l most).1 ≤ most := by
  unfold numM
  split
  · split
    · assumption
    · exact Nat.zero_le _
  · exact Nat.zero_le _
end Go.Proofs.Yteppgeiejknhoaa

