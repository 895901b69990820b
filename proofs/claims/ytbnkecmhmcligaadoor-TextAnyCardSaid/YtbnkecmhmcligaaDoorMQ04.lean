/-
  The words of flaws' kinds, of edges' kinds, of ends, of errors.
-/
import Derived.Test.YtbnkecmhmcligaaDoorMQ15
namespace Go.Proofs.YtbnkecmhmcligaaDoor
set_option linter.unusedVariables false
set_option linter.unusedSimpArgs false
set_option maxRecDepth 20000
open Go.RowKit Go.Shelf
set_option maxRecDepth 20000
def wF : List (List UInt8) := [[], [110, 111, 115, 111, 97], [109, 97, 110, 121, 115, 111, 97], [110, 111, 110, 115], [115, 116, 114, 97, 110, 103, 101], [109, 105, 120, 101, 100], [109, 97, 110, 121, 110, 97, 109, 101], [104, 105, 100, 100, 101, 110], [99, 111, 118, 101, 114, 101, 100], [119, 105, 108, 100, 110, 115]]
def wE : List (List UInt8) := [[], [110, 115, 100, 105, 102, 102, 101, 114, 115], [103, 108, 117, 101, 100, 105, 102, 102, 101, 114, 115], [110, 111, 103, 108, 117, 101], [110, 111, 99, 104, 105, 108, 100]]
def wS : List (List UInt8) := [[103, 111, 105, 110, 103], [102, 111, 117, 110, 100], [101, 109, 112, 116, 121], [109, 105, 115, 115, 105, 110, 103], [116, 111, 111, 108, 111, 110, 103], [114, 101, 102, 117, 115, 101, 100], [108, 97, 109, 101], [108, 111, 111, 112], [102, 97, 114], [103, 111, 110, 101]]
def wR : List (List UInt8) := [[111, 107], [97, 114, 103], [102, 111, 114, 109], [108, 111, 110, 103], [110, 97, 109, 101], [116, 119, 105, 99, 101], [116, 121, 112, 101], [111, 118, 101, 114], [101, 109, 112, 116, 121], [99, 121, 99, 108, 101], [100, 101, 101, 112], [109, 97, 110, 121], [122, 111, 110, 101]]
set_option maxHeartbeats 4000000 in
theorem rep_wordF (k : Int) (h0 : 0 ≤ k) (h1 : k < 10) (w : World) : Calls Tryd.prog 33 #[.int .i64 k] w fun e w' => e = .returned (.string ⟨(wF.getD k.toNat []).toArray⟩) ∧ w' = w := by
  have h : k = 0 ∨ k = 1 ∨ k = 2 ∨ k = 3 ∨ k = 4 ∨ k = 5 ∨ k = 6 ∨ k = 7 ∨ k = 8 ∨ k = 9 := by omega
  rcases h with rfl | rfl | rfl | rfl | rfl | rfl | rfl | rfl | rfl | rfl <;> (go_enter Tryd.func33, Tryd.ntmps33; go_wp2; go_ret; exact ⟨rfl, rfl⟩)
set_option maxHeartbeats 4000000 in
theorem rep_wordE (k : Int) (h0 : 0 ≤ k) (h1 : k < 5) (w : World) : Calls Tryd.prog 36 #[.int .i64 k] w fun e w' => e = .returned (.string ⟨(wE.getD k.toNat []).toArray⟩) ∧ w' = w := by
  have h : k = 0 ∨ k = 1 ∨ k = 2 ∨ k = 3 ∨ k = 4 := by omega
  rcases h with rfl | rfl | rfl | rfl | rfl <;> (go_enter Tryd.func36, Tryd.ntmps36; go_wp2; go_ret; exact ⟨rfl, rfl⟩)
set_option maxHeartbeats 4000000 in
theorem rep_wordS (k : Int) (h0 : 0 ≤ k) (h1 : k < 10) (w : World) : Calls Tryd.prog 38 #[.int .i64 k] w fun e w' => e = .returned (.string ⟨(wS.getD k.toNat []).toArray⟩) ∧ w' = w := by
  have h : k = 0 ∨ k = 1 ∨ k = 2 ∨ k = 3 ∨ k = 4 ∨ k = 5 ∨ k = 6 ∨ k = 7 ∨ k = 8 ∨ k = 9 := by omega
  rcases h with rfl | rfl | rfl | rfl | rfl | rfl | rfl | rfl | rfl | rfl <;> (go_enter Tryd.func38, Tryd.ntmps38; go_wp2; go_ret; exact ⟨rfl, rfl⟩)
set_option maxHeartbeats 4000000 in
theorem rep_wordR (k : Int) (h0 : 0 ≤ k) (h1 : k < 13) (w : World) : Calls Tryd.prog 27 #[.int .i64 k] w fun e w' => e = .returned (.string ⟨(wR.getD k.toNat []).toArray⟩) ∧ w' = w := by
  have h : k = 0 ∨ k = 1 ∨ k = 2 ∨ k = 3 ∨ k = 4 ∨ k = 5 ∨ k = 6 ∨ k = 7 ∨ k = 8 ∨ k = 9 ∨ k = 10 ∨ k = 11 ∨ k = 12 := by omega
  rcases h with rfl | rfl | rfl | rfl | rfl | rfl | rfl | rfl | rfl | rfl | rfl | rfl | rfl <;> (go_enter Tryd.func27, Tryd.ntmps27; go_wp2; go_ret; exact ⟨rfl, rfl⟩)
end Go.Proofs.YtbnkecmhmcligaaDoor

