/-
  rdata: digitOf, counted.
-/
import Derived.Test.YtfcdajldpnomfaaGreatDoorMQ25
namespace Go.Proofs.YtfcdajldpnomfaaGreatDoor
set_option maxRecDepth 20000
open Go.RowKit Go.Shelf

theorem hex_fin {c : UInt8} {w : World} {e : Ending} (v : Int) (b : Bool) (h : (hexU c = none ∧ v = 0 ∧ b = false) ∨ ∃ n : Nat, hexU c = some n ∧ v = n ∧ b = true) (he : e = .returned (.tuple #[.int .i64 v, .bool b])) :
    e = .returned (.tuple #[.int .i64 (hexV c : Int), .bool (hexB c)]) ∧ w = w := by
  subst he
  refine ⟨?_, rfl⟩
  unfold hexV hexB
  rcases h with ⟨h, rfl, rfl⟩ | ⟨n, h, rfl, rfl⟩ <;> rw [h] <;> rfl
set_option maxHeartbeats 4000000 in
theorem counted_1 (an au ax ar : Option Addr) (n1 n2 n3 n4 c1 c2 c3 c4 : Nat) (w : World) :
    Calls Tryz.prog 65 #[.agg #[.int .i64 1, .slice an n1 c1, .slice au n2 c2, .slice ax n3 c3, .slice ar n4 c4]] w fun e w' => e = .returned (.bool (decide (n1 = 0 ∧ n2 = 0 ∧ n3 = 0 ∧ n4 = 4))) ∧ Below w.heap.size w w' := by
  go_enter Tryz.func65, Tryz.ntmps65
  go_wp2
  all_goals
    go_ret
    refine ⟨ret_bool ?_, (Below.refl _ _).alloc (Nat.le_refl _) _⟩
    show (_ : Bool) = _
    rw [Bool.eq_iff_iff]
    simp only [beq_iff_eq, decide_eq_true_eq, Bool.false_eq_true, false_iff]
    omega
set_option maxHeartbeats 4000000 in
theorem counted_28 (an au ax ar : Option Addr) (n1 n2 n3 n4 c1 c2 c3 c4 : Nat) (w : World) :
    Calls Tryz.prog 65 #[.agg #[.int .i64 28, .slice an n1 c1, .slice au n2 c2, .slice ax n3 c3, .slice ar n4 c4]] w fun e w' => e = .returned (.bool (decide (n1 = 0 ∧ n2 = 0 ∧ n3 = 0 ∧ n4 = 16))) ∧ Below w.heap.size w w' := by
  go_enter Tryz.func65, Tryz.ntmps65
  go_wp2
  all_goals
    go_ret
    refine ⟨ret_bool ?_, (Below.refl _ _).alloc (Nat.le_refl _) _⟩
    show (_ : Bool) = _
    rw [Bool.eq_iff_iff]
    simp only [beq_iff_eq, decide_eq_true_eq, Bool.false_eq_true, false_iff]
    omega
set_option maxHeartbeats 4000000 in
theorem counted_2 (an au ax ar : Option Addr) (n1 n2 n3 n4 c1 c2 c3 c4 : Nat) (w : World) :
    Calls Tryz.prog 65 #[.agg #[.int .i64 2, .slice an n1 c1, .slice au n2 c2, .slice ax n3 c3, .slice ar n4 c4]] w fun e w' => e = .returned (.bool (decide (n1 = 1 ∧ n2 = 0 ∧ n3 = 0 ∧ n4 = 0))) ∧ Below w.heap.size w w' := by
  go_enter Tryz.func65, Tryz.ntmps65
  go_wp2
  all_goals
    go_ret
    refine ⟨ret_bool ?_, (Below.refl _ _).alloc (Nat.le_refl _) _⟩
    show (_ : Bool) = _
    rw [Bool.eq_iff_iff]
    simp only [beq_iff_eq, decide_eq_true_eq, Bool.false_eq_true, false_iff]
    omega
set_option maxHeartbeats 4000000 in
theorem counted_5 (an au ax ar : Option Addr) (n1 n2 n3 n4 c1 c2 c3 c4 : Nat) (w : World) :
    Calls Tryz.prog 65 #[.agg #[.int .i64 5, .slice an n1 c1, .slice au n2 c2, .slice ax n3 c3, .slice ar n4 c4]] w fun e w' => e = .returned (.bool (decide (n1 = 1 ∧ n2 = 0 ∧ n3 = 0 ∧ n4 = 0))) ∧ Below w.heap.size w w' := by
  go_enter Tryz.func65, Tryz.ntmps65
  go_wp2
  all_goals
    go_ret
    refine ⟨ret_bool ?_, (Below.refl _ _).alloc (Nat.le_refl _) _⟩
    show (_ : Bool) = _
    rw [Bool.eq_iff_iff]
    simp only [beq_iff_eq, decide_eq_true_eq, Bool.false_eq_true, false_iff]
    omega
set_option maxHeartbeats 4000000 in
theorem counted_12 (an au ax ar : Option Addr) (n1 n2 n3 n4 c1 c2 c3 c4 : Nat) (w : World) :
    Calls Tryz.prog 65 #[.agg #[.int .i64 12, .slice an n1 c1, .slice au n2 c2, .slice ax n3 c3, .slice ar n4 c4]] w fun e w' => e = .returned (.bool (decide (n1 = 1 ∧ n2 = 0 ∧ n3 = 0 ∧ n4 = 0))) ∧ Below w.heap.size w w' := by
  go_enter Tryz.func65, Tryz.ntmps65
  go_wp2
  all_goals
    go_ret
    refine ⟨ret_bool ?_, (Below.refl _ _).alloc (Nat.le_refl _) _⟩
    show (_ : Bool) = _
    rw [Bool.eq_iff_iff]
    simp only [beq_iff_eq, decide_eq_true_eq, Bool.false_eq_true, false_iff]
    omega
set_option maxHeartbeats 4000000 in
theorem counted_39 (an au ax ar : Option Addr) (n1 n2 n3 n4 c1 c2 c3 c4 : Nat) (w : World) :
    Calls Tryz.prog 65 #[.agg #[.int .i64 39, .slice an n1 c1, .slice au n2 c2, .slice ax n3 c3, .slice ar n4 c4]] w fun e w' => e = .returned (.bool (decide (n1 = 1 ∧ n2 = 0 ∧ n3 = 0 ∧ n4 = 0))) ∧ Below w.heap.size w w' := by
  go_enter Tryz.func65, Tryz.ntmps65
  go_wp2
  all_goals
    go_ret
    refine ⟨ret_bool ?_, (Below.refl _ _).alloc (Nat.le_refl _) _⟩
    show (_ : Bool) = _
    rw [Bool.eq_iff_iff]
    simp only [beq_iff_eq, decide_eq_true_eq, Bool.false_eq_true, false_iff]
    omega
set_option maxHeartbeats 4000000 in
theorem counted_15 (an au ax ar : Option Addr) (n1 n2 n3 n4 c1 c2 c3 c4 : Nat) (w : World) :
    Calls Tryz.prog 65 #[.agg #[.int .i64 15, .slice an n1 c1, .slice au n2 c2, .slice ax n3 c3, .slice ar n4 c4]] w fun e w' => e = .returned (.bool (decide (n1 = 1 ∧ n2 = 1 ∧ n3 = 0 ∧ n4 = 0))) ∧ Below w.heap.size w w' := by
  go_enter Tryz.func65, Tryz.ntmps65
  go_wp2
  all_goals
    go_ret
    refine ⟨ret_bool ?_, (Below.refl _ _).alloc (Nat.le_refl _) _⟩
    show (_ : Bool) = _
    rw [Bool.eq_iff_iff]
    simp only [beq_iff_eq, decide_eq_true_eq, Bool.false_eq_true, false_iff]
    omega
set_option maxHeartbeats 4000000 in
theorem counted_6 (an au ax ar : Option Addr) (n1 n2 n3 n4 c1 c2 c3 c4 : Nat) (w : World) :
    Calls Tryz.prog 65 #[.agg #[.int .i64 6, .slice an n1 c1, .slice au n2 c2, .slice ax n3 c3, .slice ar n4 c4]] w fun e w' => e = .returned (.bool (decide (n1 = 2 ∧ n2 = 5 ∧ n3 = 0 ∧ n4 = 0))) ∧ Below w.heap.size w w' := by
  go_enter Tryz.func65, Tryz.ntmps65
  go_wp2
  all_goals
    go_ret
    refine ⟨ret_bool ?_, (Below.refl _ _).alloc (Nat.le_refl _) _⟩
    show (_ : Bool) = _
    rw [Bool.eq_iff_iff]
    simp only [beq_iff_eq, decide_eq_true_eq, Bool.false_eq_true, false_iff]
    omega
set_option maxHeartbeats 4000000 in
theorem counted_16 (an au ax ar : Option Addr) (n1 n2 n3 n4 c1 c2 c3 c4 : Nat) (w : World) :
    Calls Tryz.prog 65 #[.agg #[.int .i64 16, .slice an n1 c1, .slice au n2 c2, .slice ax n3 c3, .slice ar n4 c4]] w fun e w' => e = .returned (.bool (decide (n1 = 0 ∧ n2 = 0 ∧ (1 ≤ n3 ∧ n3 ≤ 32) ∧ n4 = 0))) ∧ Below w.heap.size w w' := by
  obtain ⟨m, hm⟩ : ∃ m, min (max (n3 : Int) 1) 32 = m := ⟨_, rfl⟩
  have HM := Lib.hid (show ((n3 : Int) = m ↔ 1 ≤ n3 ∧ n3 ≤ 32) by rw [← hm]; omega)
  go_enter Tryz.func65, Tryz.ntmps65
  go_wp2
  all_goals
    go_ret
    have hM := HM.out
    clear hm HM
    refine ⟨ret_bool ?_, (Below.refl _ _).alloc (Nat.le_refl _) _⟩
    show (_ : Bool) = _
    rw [Bool.eq_iff_iff]
    simp only [beq_iff_eq, decide_eq_true_eq, Bool.false_eq_true, false_iff]
    omega
set_option maxHeartbeats 4000000 in
theorem counted_other (t : Int) (e0 : (t == 1) = false) (e1 : (t == 28) = false) (e2 : (t == 2) = false) (e3 : (t == 5) = false) (e4 : (t == 12) = false) (e5 : (t == 39) = false) (e6 : (t == 15) = false) (e7 : (t == 6) = false) (e8 : (t == 16) = false) (an au ax ar : Option Addr) (n1 n2 n3 n4 c1 c2 c3 c4 : Nat) (w : World) :
    Calls Tryz.prog 65 #[.agg #[.int .i64 t, .slice an n1 c1, .slice au n2 c2, .slice ax n3 c3, .slice ar n4 c4]] w fun e w' => e = .returned (.bool (decide (n1 = 0 ∧ n2 = 0 ∧ n3 = 0))) ∧ Below w.heap.size w w' := by
  go_enter Tryz.func65, Tryz.ntmps65
  go_wp2
  all_goals
    go_ret
    refine ⟨ret_bool ?_, (Below.refl _ _).alloc (Nat.le_refl _) _⟩
    show (_ : Bool) = _
    clear e0 e1 e2 e3 e4 e5 e6 e7 e8
    first | (symm; apply decide_eq_true; omega) | (symm; apply decide_eq_false; omega) | (rw [Bool.eq_iff_iff]; simp only [beq_iff_eq, decide_eq_true_eq]; omega)

end Go.Proofs.YtfcdajldpnomfaaGreatDoor

