/-
  Contracts of label.Compare, label.Same and of cmp.Compare at bytes and at ints.
-/
import Derived.Test.YtoohhoillblaoaaLabC
import Derived.Deep.QuietTactic
namespace Go.Proofs.Ytoohhoillblaoaa
open Go.RowKit Go.Shelf

def cmpI (a b : Int) : Int := if a < b then -1 else if b < a then 1 else 0

set_option maxHeartbeats 400000 in
theorem nan_u8 (a : Int) (w : World) : Calls Try.prog 74 #[.int .u8 a] w fun e w' => e = .returned (.bool false) ∧ w = w' := by
  go_enter Try.func74, Try.ntmps74
  go_wp2
  go_ret
  exact ⟨ret_bool (by simp), rfl⟩

set_option maxHeartbeats 400000 in
theorem nan_int (a : Int) (w : World) : Calls Try.prog 70 #[.int .i64 a] w fun e w' => e = .returned (.bool false) ∧ w = w' := by
  go_enter Try.func70, Try.ntmps70
  go_wp2
  go_ret
  exact ⟨ret_bool (by simp), rfl⟩

set_option maxHeartbeats 400000 in
theorem cmp_u8 (a b : Int) (w : World) : Calls Try.prog 69 #[.int .u8 a, .int .u8 b] w fun e w' => e = .returned (.int .i64 (cmpI a b)) ∧ w = w' := by
  go_enter Try.func69, Try.ntmps69
  go_wp2_with (go_at_call 74; refine (nan_u8 _ _).mono ?_; rintro e w' ⟨rfl, rfl⟩)
  all_goals go_ret
  all_goals refine ⟨ret_int ?_, rfl⟩
  · have h : a < b := by assumption
    show -1 = _; rw [cmpI, if_pos h]
  · have h : b ≤ a := by assumption
    have h2 : b < a := by assumption
    show 1 = _; rw [cmpI, if_neg (by omega), if_pos h2]
  · have h : b ≤ a := by assumption
    have h2 : a ≤ b := by assumption
    show 0 = _; rw [cmpI, if_neg (by omega), if_neg (by omega)]

set_option maxHeartbeats 400000 in
theorem cmp_int (a b : Int) (w : World) : Calls Try.prog 58 #[.int .i64 a, .int .i64 b] w fun e w' => e = .returned (.int .i64 (cmpI a b)) ∧ w = w' := by
  go_enter Try.func58, Try.ntmps58
  go_wp2_with (go_at_call 70; refine (nan_int _ _).mono ?_; rintro e w' ⟨rfl, rfl⟩)
  all_goals go_ret
  all_goals refine ⟨ret_int ?_, rfl⟩
  · have h : a < b := by assumption
    show -1 = _; rw [cmpI, if_pos h]
  · have h : b ≤ a := by assumption
    have h2 : b < a := by assumption
    show 1 = _; rw [cmpI, if_neg (by omega), if_pos h2]
  · have h : b ≤ a := by assumption
    have h2 : a ≤ b := by assumption
    show 0 = _; rw [cmpI, if_neg (by omega), if_neg (by omega)]

/-- Folded, octet by octet; who has fewer, ahead. -/
def compareM : List UInt8 → List UInt8 → Int
  | [], [] => 0
  | [], _ :: _ => -1
  | _ :: _, [] => 1
  | x :: a, y :: b => if smallU x = smallU y then compareM a b else cmpI (smallU x).toNat (smallU y).toNat

theorem compareM_step (a b : ByteArray) (k : Nat) (ha : k < a.size) (hb : k < b.size) :
    compareM (a.data.toList.drop k) (b.data.toList.drop k) = if smallU a[k] = smallU b[k] then compareM (a.data.toList.drop (k + 1)) (b.data.toList.drop (k + 1)) else cmpI (smallU a[k]).toNat (smallU b[k]).toNat := by
  rw [drop_cons_get a k ha, drop_cons_get b k hb]; rfl
theorem compareM_end (a b : ByteArray) (k : Nat) (h : k = a.size ∨ k = b.size) (ha : k ≤ a.size) (hb : k ≤ b.size) :
    compareM (a.data.toList.drop k) (b.data.toList.drop k) = cmpI a.size b.size := by
  unfold cmpI
  rcases Nat.lt_trichotomy a.size b.size with h1 | h1 | h1
  · obtain rfl : k = a.size := by omega
    rw [if_pos (by omega), drop_cons_get b _ h1, List.drop_eq_nil_of_le (by simp)]; rfl
  · obtain rfl : k = a.size := by omega
    rw [if_neg (by omega), if_neg (by omega), List.drop_eq_nil_of_le (by simp), List.drop_eq_nil_of_le (by rw [size_data]; omega)]; rfl
  · obtain rfl : k = b.size := by omega
    rw [if_neg (by omega), if_pos (by omega), drop_cons_get a _ h1, show b.data.toList.drop b.size = [] from List.drop_eq_nil_of_le (by simp)]; rfl
theorem u8_ne {x y : UInt8} (h : (((x.toNat : Int)) != (y.toNat : Int)) = true) : x ≠ y := by
  intro e; subst e; simp at h
theorem u8_eq {x y : UInt8} (h : (((x.toNat : Int)) != (y.toNat : Int)) = false) : x = y := by
  have : (x.toNat : Int) = y.toNat := by simpa using h
  exact UInt8.toNat_inj.1 (by omega)

theorem label_small_q (c : UInt8) (w : World) :
    Calls Try.prog 64 #[.int .u8 (c.toNat : Int)] w fun e w' => e = .returned (.int .u8 ((smallU c).toNat : Int)) ∧ w' = w :=
  (label_small c w).mono fun _ _ h => ⟨h.1, h.2.symm⟩

set_option maxHeartbeats 2000000 in
theorem label_Compare (a b : ByteArray) (w : World) (ha : a.size ≤ maxLen) (hb : b.size ≤ maxLen) :
    Calls Try.prog 57 #[.string a, .string b] w fun e w' => e = .returned (.int .i64 (compareM a.data.toList b.data.toList)) ∧ ∃ n, w' = w.drewN n := by
  unfold maxLen at ha hb
  by_cases hba : (b.size : Int) < (a.size : Int)
  · go_enter Try.func57, Try.ntmps57
    go_wp2
    go_loopw [13] (fun i wr => ∃ k : Nat, i = .int .i64 k ∧ k ≤ b.size ∧ Hid (compareM (a.data.toList.drop k) (b.data.toList.drop k) = compareM a.data.toList b.data.toList) ∧ ∃ n, wr = w.drewN n) (fun i _ => b.size - (intOf i).toNat)
    case atStart => exact ⟨0, rfl, Nat.zero_le _, by exact Lib.hid (by simp), 0, rfl⟩
    case round =>
      obtain ⟨k, rfl, hk, HC, n, hw⟩ := hrel
      have HW := Lib.hid hw; clear hw
      by_cases hlt : k < b.size
      · have hstep := compareM_step a b k (by omega) (by omega)
        have HS := Lib.hid hstep; clear hstep
        have hka : k < a.size := by omega
        have hkb : k < b.size := by omega
        by_cases heq : (((smallU a[k]).toNat : Int) != ((smallU b[k]).toNat : Int)) = true
        · have hne := u8_ne heq
          go_wp2
          go_quiet ((go_at_call 64; exact Calls.quiet_of_same (label_small_q _ _)))
          go_wp2_with (go_at_call 69; refine (cmp_u8 _ _ _).mono ?_; rintro e w' ⟨rfl, rfl⟩)
          go_ret
          refine ⟨ret_int ?_, ?_⟩
          · rw [← HC.out, HS.out, if_neg hne]
          · rw [HW.out]; exact ⟨_, World.drewN_drewN _ _ _⟩
        · have heq2 : (((smallU a[k]).toNat : Int) != ((smallU b[k]).toNat : Int)) = false := by simpa using heq
          have he := u8_eq heq2
          clear heq
          go_wp2
          go_quiet ((go_at_call 64; exact Calls.quiet_of_same (label_small_q _ _)))
          go_wp2
          go_roundw
          case rel => exact ⟨k + 1, by go_num, by omega, by exact Lib.hid (by rw [← HC.out, HS.out, if_pos he]), by rw [HW.out]; exact ⟨_, World.drewN_drewN _ _ _⟩⟩
          case measure => simp [intOf]; omega
      · obtain rfl : k = b.size := by omega
        have hend := compareM_end a b b.size (by omega) (by omega) (by omega)
        have HE := Lib.hid hend; clear hend
        go_wp2_with (go_at_call 58; refine (cmp_int _ _ _).mono ?_; rintro e w' ⟨rfl, rfl⟩)
        go_ret
        exact ⟨ret_int (by rw [← HC.out, HE.out]), n, HW.out⟩
  · have hba2 : (a.size : Int) ≤ (b.size : Int) := by omega
    go_enter Try.func57, Try.ntmps57
    go_wp2
    go_loopw [13] (fun i wr => ∃ k : Nat, i = .int .i64 k ∧ k ≤ a.size ∧ Hid (compareM (a.data.toList.drop k) (b.data.toList.drop k) = compareM a.data.toList b.data.toList) ∧ ∃ n, wr = w.drewN n) (fun i _ => a.size - (intOf i).toNat)
    case atStart => exact ⟨0, rfl, Nat.zero_le _, by exact Lib.hid (by simp), 0, rfl⟩
    case round =>
      obtain ⟨k, rfl, hk, HC, n, hw⟩ := hrel
      have HW := Lib.hid hw; clear hw
      by_cases hlt : k < a.size
      · have hstep := compareM_step a b k (by omega) (by omega)
        have HS := Lib.hid hstep; clear hstep
        have hka : k < a.size := by omega
        have hkb : k < b.size := by omega
        by_cases heq : (((smallU a[k]).toNat : Int) != ((smallU b[k]).toNat : Int)) = true
        · have hne := u8_ne heq
          go_wp2
          go_quiet ((go_at_call 64; exact Calls.quiet_of_same (label_small_q _ _)))
          go_wp2_with (go_at_call 69; refine (cmp_u8 _ _ _).mono ?_; rintro e w' ⟨rfl, rfl⟩)
          go_ret
          refine ⟨ret_int ?_, ?_⟩
          · rw [← HC.out, HS.out, if_neg hne]
          · rw [HW.out]; exact ⟨_, World.drewN_drewN _ _ _⟩
        · have heq2 : (((smallU a[k]).toNat : Int) != ((smallU b[k]).toNat : Int)) = false := by simpa using heq
          have he := u8_eq heq2
          clear heq
          go_wp2
          go_quiet ((go_at_call 64; exact Calls.quiet_of_same (label_small_q _ _)))
          go_wp2
          go_roundw
          case rel => exact ⟨k + 1, by go_num, by omega, by exact Lib.hid (by rw [← HC.out, HS.out, if_pos he]), by rw [HW.out]; exact ⟨_, World.drewN_drewN _ _ _⟩⟩
          case measure => simp [intOf]; omega
      · obtain rfl : k = a.size := by omega
        have hend := compareM_end a b a.size (by omega) (by omega) (by omega)
        have HE := Lib.hid hend; clear hend
        go_wp2_with (go_at_call 58; refine (cmp_int _ _ _).mono ?_; rintro e w' ⟨rfl, rfl⟩)
        go_ret
        exact ⟨ret_int (by rw [← HC.out, HE.out]), n, HW.out⟩

end Go.Proofs.Ytoohhoillblaoaa
