/-
  The document's words of a report: its errors' words, its numbers, its faults. (Written by wip/tools/genrepd.py.)
-/
import Derived.Test.YtbnkecmhmcligaaDoorMQ28
import Derived.Test.YtbnkecmhmcligaaDoorMQ23
import Derived.Test.YtbnkecmhmcligaaDoorMQ09
namespace Go.Proofs.YtbnkecmhmcligaaDoor
open Go.RowKit Go.Shelf
set_option maxRecDepth 20000
set_option linter.unusedVariables false
set_option linter.unusedSimpArgs false
set_option maxHeartbeats 8000000 in
theorem rep_Err (k : Int) (h0 : 0 ≤ k) (h1 : k < 13) (w : World) : Calls Tryd.prog 17 #[.int .i64 k] w fun e w' => e = .returned (.string ⟨(wR.getD k.toNat []).toArray⟩) ∧ Below w.heap.size w w' := by
  have h : k = 0 ∨ k = 1 ∨ k = 2 ∨ k = 3 ∨ k = 4 ∨ k = 5 ∨ k = 6 ∨ k = 7 ∨ k = 8 ∨ k = 9 ∨ k = 10 ∨ k = 11 ∨ k = 12 := by omega
  have hb := fun o => (Below.refl w.heap.size w).alloc (Nat.le_refl _) o
  rcases h with rfl | rfl | rfl | rfl | rfl | rfl | rfl | rfl | rfl | rfl | rfl | rfl | rfl <;> (go_enter Tryd.func17, Tryd.ntmps17; go_wp2; go_ret; exact ⟨rfl, hb _⟩)
theorem rep_num (n : Int) (h0 : 0 ≤ n) (h1 : n ≤ 4611686018427387904) (w : World) : Calls Tryd.prog 15 #[.int .i64 n] w fun e w' => e = .returned (.string ⟨(Lib.itoa n).toArray⟩) ∧ Below w.heap.size w w' := by
  obtain ⟨u, rfl⟩ : ∃ u : Nat, n = (u : Int) := ⟨n.toNat, by omega⟩
  have hD := ref_Decimal u w (by omega)
  rw [Lib.itoa_nonneg]
  go_enter Tryd.func15, Tryd.ntmps15
  go_wp2_with fail
  refine hD.mono ?_
  rintro e w1 ⟨rfl, hb1⟩
  go_wp2
  go_ret
  exact ⟨rfl, hb1⟩
set_option maxRecDepth 100000 in
set_option maxHeartbeats 8000000 in
theorem rep_Fault (f : Ft) (w : World) (hk : FtOK f) (h0 : 0 ≤ f.line) (h1 : f.line ≤ 4611686018427387904) :
    Calls Tryd.prog 12 #[.agg #[strV f.path, .int .i64 f.line, .int .i64 f.err]] w fun e w' => e = .returned (.string ⟨(faultW f).toArray⟩) ∧ Below w.heap.size w w' := by
  obtain ⟨u, hu⟩ : ∃ u : Nat, f.line = (u : Int) := ⟨f.line.toNat, by omega⟩
  have hHI := fun W (hb : Below w.heap.size w W) => ref_Decimal u W (by omega)
  have hHW := fun W (hb : Below w.heap.size w W) => rep_Err f.err hk.err.1 hk.err.2 W
  have hR : faultW f = f.path ++ [58] ++ Lib.itoa f.line ++ [58, 32] ++ wR.getD f.err.toNat [] := rfl
  have l0 := hk.path
  have l1 := itoa_len f.line hk.line.1 hk.line.2
  have l2 := wR_len f.err.toNat
  rw [hu] at hR l1 ⊢
  rw [Lib.itoa_nonneg] at hR l1
  unfold strV
  generalize faultW f = res at *
  generalize Lib.decDigits u = x1 at *
  generalize wR.getD f.err.toNat [] = x2 at *
  generalize f.path = x0 at *
  obtain ⟨ln, hln⟩ : ∃ l : Int, (u : Int) = l := ⟨_, rfl⟩
  rw [hln] at hHI ⊢
  generalize f.err = er at *
  have hL : res.length ≤ 1000000000000 := by rw [hR]; simp only [List.length_append, List.length_cons, List.length_nil]; omega
  have hz := hL
  rw [hR] at hz
  simp only [List.length_append] at hz
  have A0 := add_rep (x0) [58] (x0 ++ [58]) rfl (by simp only [List.length_append]; omega)
  have A1 := add_rep (x0 ++ [58]) x1 (x0 ++ [58] ++ x1) rfl (by simp only [List.length_append]; omega)
  have A2 := add_rep (x0 ++ [58] ++ x1) [58, 32] (x0 ++ [58] ++ x1 ++ [58, 32]) rfl (by simp only [List.length_append]; omega)
  have A3 := add_rep (x0 ++ [58] ++ x1 ++ [58, 32]) x2 res hR hL
  generalize (⟨res.toArray⟩ : ByteArray) = b3 at *
  generalize (⟨(x0 ++ [58] ++ x1 ++ [58, 32]).toArray⟩ : ByteArray) = b2 at *
  generalize (⟨(x0 ++ [58] ++ x1).toArray⟩ : ByteArray) = b1 at *
  generalize (⟨(x0 ++ [58]).toArray⟩ : ByteArray) = b0 at *
  generalize (⟨x0.toArray⟩ : ByteArray) = cx0 at *
  generalize (⟨x1.toArray⟩ : ByteArray) = cx1 at *
  generalize (⟨x2.toArray⟩ : ByteArray) = cx2 at *
  have B0 : ∀ W, (Op.stringOp .add cx0 (⟨#[58]⟩ : ByteArray)).run Tryd.prog W = .ok (.string b0) W := A0
  have B1 : ∀ W, (Op.stringOp .add b0 cx1).run Tryd.prog W = .ok (.string b1) W := A1
  have B2 : ∀ W, (Op.stringOp .add b1 (⟨#[58, 32]⟩ : ByteArray)).run Tryd.prog W = .ok (.string b2) W := A2
  have B3 : ∀ W, (Op.stringOp .add b2 cx2).run Tryd.prog W = .ok (.string b3) W := A3
  clear A0 A1 A2 A3
  clear hz hL
  have HSS := Lib.hid (fun (W : World) (h : BxB w #[(.string cx0), (.int .i64 ln), (.int .i64 er)] 54 W) => (⟨kcell h.p 0 _ rfl, kcell h.p 1 _ rfl, kcell h.p 2 _ rfl, h⟩ : W.cell? ⟨w.heap.size, 0, none⟩ = some (.string cx0) ∧ W.cell? ⟨w.heap.size, 1, none⟩ = some (.int .i64 ln) ∧ W.cell? ⟨w.heap.size, 2, none⟩ = some (.int .i64 er) ∧ BxB w #[(.string cx0), (.int .i64 ln), (.int .i64 er)] 54 W))
  have HI := Lib.hid (fun (W : World) (h : W.cell? ⟨w.heap.size, 0, none⟩ = some (.string cx0) ∧ W.cell? ⟨w.heap.size, 1, none⟩ = some (.int .i64 ln) ∧ W.cell? ⟨w.heap.size, 2, none⟩ = some (.int .i64 er) ∧ BxB w #[(.string cx0), (.int .i64 ln), (.int .i64 er)] 54 W) => hHI W h.2.2.2.below)
  have HW := Lib.hid (fun (W : World) (h : W.cell? ⟨w.heap.size, 0, none⟩ = some (.string cx0) ∧ W.cell? ⟨w.heap.size, 1, none⟩ = some (.int .i64 ln) ∧ W.cell? ⟨w.heap.size, 2, none⟩ = some (.int .i64 er) ∧ BxB w #[(.string cx0), (.int .i64 ln), (.int .i64 er)] 54 W) => hHW W h.2.2.2.below)
  have KS := Lib.hid (fun (W W' : World) (h : W.cell? ⟨w.heap.size, 0, none⟩ = some (.string cx0) ∧ W.cell? ⟨w.heap.size, 1, none⟩ = some (.int .i64 ln) ∧ W.cell? ⟨w.heap.size, 2, none⟩ = some (.int .i64 er) ∧ BxB w #[(.string cx0), (.int .i64 ln), (.int .i64 er)] 54 W) (hb : Below W.heap.size W W') => HSS.out W' (h.2.2.2.keep hb))
  have KD := Lib.hid (fun (W : World) (h : W.cell? ⟨w.heap.size, 0, none⟩ = some (.string cx0) ∧ W.cell? ⟨w.heap.size, 1, none⟩ = some (.int .i64 ln) ∧ W.cell? ⟨w.heap.size, 2, none⟩ = some (.int .i64 er) ∧ BxB w #[(.string cx0), (.int .i64 ln), (.int .i64 er)] 54 W) => HSS.out W.drew (h.2.2.2.keep (W' := W.drew) ⟨rfl, rfl, rfl, Nat.le_refl _, fun _ _ => rfl⟩))
  have hS0 := HSS.out _ (BxB.new w #[(.string cx0), (.int .i64 ln), (.int .i64 er)] 54)
  clear hR hk HSS hHI hHW hln hu h0 h1 l0 l1 l2
  go_enter Tryd.func12, Tryd.ntmps12
  go_wp2_with fail
  go_region_held3 (fun W => W.cell? ⟨w.heap.size, 0, none⟩ = some (.string cx0) ∧ W.cell? ⟨w.heap.size, 1, none⟩ = some (.int .i64 ln) ∧ W.cell? ⟨w.heap.size, 2, none⟩ = some (.int .i64 er) ∧ BxB w #[(.string cx0), (.int .i64 ln), (.int .i64 er)] 54 W)
    (first | with_reducible assumption | (with_reducible exact KD.out _ (by with_reducible assumption)))
    (first | ((with_reducible refine (HI.out _ (by with_reducible assumption)).mono ?_); rintro e w2 ⟨rfl, hb2⟩; have hS2 := KS.out _ _ (by with_reducible assumption) hb2) | ((with_reducible refine (HW.out _ (by with_reducible assumption)).mono ?_); rintro e w2 ⟨rfl, hb2⟩; have hS2 := KS.out _ _ (by with_reducible assumption) hb2))
  all_goals
    rename_i hSe
    go_wp2_with fail
    go_ret
    exact ⟨rfl, hSe.2.2.2.below⟩
end Go.Proofs.YtbnkecmhmcligaaDoor
