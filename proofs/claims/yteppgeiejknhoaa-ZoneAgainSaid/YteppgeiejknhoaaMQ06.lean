/-
  The document's CompareData. (Written by wip/tools/gen11.py.)
-/
import Derived.Test.YteppgeiejknhoaaMQ30
import Derived.Test.YteppgeiejknhoaaMQ38
import Derived.Test.YteppgeiejknhoaaMQ22
import Derived.Test.YteppgeiejknhoaaMQ10
import Derived.Deep.CutBlock
import Derived.Deep.DeepCutAuto
namespace Go.Proofs.Yteppgeiejknhoaa
set_option maxRecDepth 20000
open Go.RowKit Go.Shelf
set_option maxRecDepth 20000
theorem keepS4 {N : Nat} {W0 W W' : World} {p q r s : Addr} {u v x y : Value} (h : W.cell? p = some u ∧ W.cell? q = some v ∧ W.cell? r = some x ∧ W.cell? s = some y ∧ Below N W0 W) (hb : Below W.heap.size W W') (hp : p.block < N) (hq : q.block < N) (hr : r.block < N) (hs : s.block < N) (hn : N ≤ W0.heap.size) :
    W'.cell? p = some u ∧ W'.cell? q = some v ∧ W'.cell? r = some x ∧ W'.cell? s = some y ∧ Below N W0 W' := by
  have hz := h.2.2.2.2.size
  exact ⟨(hb.cell (by omega)).trans h.1, (hb.cell (by omega)).trans h.2.1, (hb.cell (by omega)).trans h.2.2.1, (hb.cell (by omega)).trans h.2.2.2.1, h.2.2.2.2.trans (hb.mono (by omega))⟩
theorem cmpI_diff (a b : Int) : cmpI (a - b) 0 = cmpI a b := by
  unfold cmpI
  by_cases h : a < b
  · rw [if_pos h, if_pos (by omega)]
  · rw [if_neg h, if_neg (by omega)]
    by_cases h2 : b < a
    · rw [if_pos h2, if_pos (by omega)]
    · rw [if_neg h2, if_neg (by omega)]
theorem cmpI_ne {a b : Int} (h : a ≠ b) : cmpI a b ≠ 0 := by
  unfold cmpI; split
  · decide
  · split
    · decide
    · omega
theorem cmpI_self (a : Int) : cmpI a a = 0 := by simp [cmpI]
theorem bytes_string {W : World} {v : Value} {xs : List UInt8} (h : SlAt W v (xs.map bv)) : (convert 46 9 v).run Try.prog W = .ok (.string ⟨xs.toArray⟩) W := by
  obtain ⟨a, c, rfl, hc, hz, hx⟩ := h
  rw [List.length_map] at *
  cases xs with
  | nil =>
    cases a with
    | none => exact Lib.run_convert_nil_bytes W _ _ _ _ Try.underlying46 Try.underlying5 Try.underlying9
    | some p => exact run_convert_bytes_back W 46 9 5 p c [] Try.underlying46 Try.underlying5 Try.underlying9 (fun j hj => absurd hj (Nat.not_lt_zero _))
  | cons y r =>
    rcases hx with e | ⟨b, off, rfl, _, hcell⟩
    · simp at e
    · exact run_convert_bytes_back W 46 9 5 ⟨b, off, none⟩ c (y :: r) Try.underlying46 Try.underlying5 Try.underlying9 (fun j hj => by
        have := hcell j (by simpa using hj)
        rw [List.getElem_map] at this
        have e : ((⟨b, off, none⟩ : Addr).add j) = ⟨b, off + j, none⟩ := by unfold Addr.add; by_cases hj : j = 0 <;> simp [hj]
        rw [e]; exact this)

end Go.Proofs.Yteppgeiejknhoaa

