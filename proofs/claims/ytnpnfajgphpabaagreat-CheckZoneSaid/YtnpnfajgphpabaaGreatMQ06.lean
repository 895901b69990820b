import Derived.Deep.QuietTactic
import Derived.Test.YtnpnfajgphpabaaGreatMQ31
namespace Go.Proofs.YtnpnfajgphpabaaGreat
set_option maxRecDepth 20000
open Go.RowKit Go.Shelf
def foldL (l : List UInt8) : List UInt8 := l.map smallU
section
attribute [local go_sem] Oper.semAt_some
end
end Go.Proofs.YtnpnfajgphpabaaGreat
namespace Go.Proofs.YtnpnfajgphpabaaGreat
set_option maxRecDepth 20000
set_option maxHeartbeats 2000000
open Go.RowKit Go.Shelf
def cmpI (a b : Int) : Int := if a < b then -1 else if b < a then 1 else 0
theorem nan_u8 (a : Int) (w : World) : Calls Tryz.prog 113 #[.int .u8 a] w fun e w' => e = .returned (.bool false) ∧ w = w' := by
 go_enter Tryz.func113, Tryz.ntmps113
 go_wp2
 go_ret
 exact ⟨qbU (by simp), rfl⟩
theorem qkZ (a : Int) (w : World) : Calls Tryz.prog 71 #[.int .i64 a] w fun e w' => e = .returned (.bool false) ∧ w = w' := by
 go_enter Tryz.func71, Tryz.ntmps71
 go_wp2
 go_ret
 exact ⟨qbU (by simp), rfl⟩
theorem cmp_u8 (a b : Int) (w : World) : Calls Tryz.prog 93 #[.int .u8 a, .int .u8 b] w fun e w' => e = .returned (.int .i64 (cmpI a b)) ∧ w = w' := by
 go_enter Tryz.func93, Tryz.ntmps93
 go_wp2_with (go_at_call 113; refine (nan_u8 _ _).mono ?_; rintro e w' ⟨rfl, rfl⟩)
 all_goals go_ret
 all_goals refine ⟨qaE ?_, rfl⟩
 ·have h : a < b := by assumption
  show -1 = _; rw [cmpI, if_pos h]
 ·have h : b ≤ a := by assumption
  have h2 : b < a := by assumption
  show 1 = _; rw [cmpI, if_neg (by omega), if_pos h2]
 ·have h : b ≤ a := by assumption
  have h2 : a ≤ b := by assumption
  show 0 = _; rw [cmpI, if_neg (by omega), if_neg (by omega)]
theorem qa8 (a b : Int) (w : World) : Calls Tryz.prog 39 #[.int .i64 a, .int .i64 b] w fun e w' => e = .returned (.int .i64 (cmpI a b)) ∧ w = w' := by
 go_enter Tryz.func39, Tryz.ntmps39
 go_wp2_with (go_at_call 71; refine (qkZ _ _).mono ?_; rintro e w' ⟨rfl, rfl⟩)
 all_goals go_ret
 all_goals refine ⟨qaE ?_, rfl⟩
 ·have h : a < b := by assumption
  show -1 = _; rw [cmpI, if_pos h]
 ·have h : b ≤ a := by assumption
  have h2 : b < a := by assumption
  show 1 = _; rw [cmpI, if_neg (by omega), if_pos h2]
 ·have h : b ≤ a := by assumption
  have h2 : a ≤ b := by assumption
  show 0 = _; rw [cmpI, if_neg (by omega), if_neg (by omega)]
def qac : List UInt8 → List UInt8 → Int
 | [], [] => 0
 | [], _ :: _ => -1
 | _ :: _, [] => 1
 | x :: a, y :: b => if smallU x = smallU y then qac a b else cmpI (smallU x).toNat (smallU y).toNat
theorem qdc (a b : ByteArray) (k : Nat) (ha : k < a.size) (hb : k < b.size) :
 qac (a.data.toList.drop k) (b.data.toList.drop k) = if smallU a[k] = smallU b[k] then qac (a.data.toList.drop (k + 1)) (b.data.toList.drop (k + 1)) else cmpI (smallU a[k]).toNat (smallU b[k]).toNat := by
 rw [qbx a k ha, qbx b k hb]; rfl
theorem qdz (a b : ByteArray) (k : Nat) (h : k = a.size ∨ k = b.size) (ha : k ≤ a.size) (hb : k ≤ b.size) :
 qac (a.data.toList.drop k) (b.data.toList.drop k) = cmpI a.size b.size := by
 unfold cmpI
 rcases Nat.lt_trichotomy a.size b.size with h1 | h1 | h1
 ·obtain rfl : k = a.size := by omega
  rw [if_pos (by omega), qbx b _ h1, List.drop_eq_nil_of_le (by simp)]; rfl
 ·obtain rfl : k = a.size := by omega
  rw [if_neg (by omega), if_neg (by omega), List.drop_eq_nil_of_le (by simp), List.drop_eq_nil_of_le (by rw [qb3]; omega)]; rfl
 ·obtain rfl : k = b.size := by omega
  rw [if_neg (by omega), if_pos (by omega), qbx a _ h1, show b.data.toList.drop b.size = [] from List.drop_eq_nil_of_le (by simp)]; rfl
theorem u8_ne {x y : UInt8} (h : (((x.toNat : Int)) != (y.toNat : Int)) = true) : x ≠ y := by
 intro e; subst e; simp at h
theorem u8_eq {x y : UInt8} (h : (((x.toNat : Int)) != (y.toNat : Int)) = false) : x = y := by
 have : (x.toNat : Int) = y.toNat := by simpa using h
 exact UInt8.toNat_inj.1 (by omega)
theorem qbz (c : UInt8) (w : World) :
 Calls Tryz.prog 92 #[.int .u8 (c.toNat : Int)] w fun e w' => e = .returned (.int .u8 ((smallU c).toNat : Int)) ∧ w' = w :=
 (qhB c w).mono fun _ _ h => ⟨h.1, h.2.symm⟩
theorem qde (a b : ByteArray) (w : World) (ha : a.size ≤ maxLen) (hb : b.size ≤ maxLen) :
 Calls Tryz.prog 69 #[.string a, .string b] w fun e w' => e = .returned (.int .i64 (qac a.data.toList b.data.toList)) ∧ ∃ n, w' = w.drewN n := by
 unfold maxLen at ha hb
 by_cases hba : (b.size : Int) < (a.size : Int)
 ·go_enter Tryz.func69, Tryz.ntmps69
  go_wp2
  go_loopw [13] (fun i wr => ∃ k : Nat, i = .int .i64 k ∧ k ≤ b.size ∧ Hid (qac (a.data.toList.drop k) (b.data.toList.drop k) = qac a.data.toList b.data.toList) ∧ ∃ n, wr = w.drewN n) (fun i _ => b.size - (intOf i).toNat)
  case atStart => exact ⟨0, rfl, Nat.zero_le _, by exact qH0 (by simp), 0, rfl⟩
  case round =>
   obtain ⟨k, rfl, hk, HC, n, hw⟩ := hrel
   have HW := qH0 hw; clear hw
   by_cases hlt : k < b.size
   ·have hstep := qdc a b k (by omega) (by omega)
    have HS := qH0 hstep; clear hstep
    have hka : k < a.size := by omega
    have hkb : k < b.size := by omega
    by_cases heq : (((smallU a[k]).toNat : Int) != ((smallU b[k]).toNat : Int)) = true
    ·have hne := u8_ne heq
     go_wp2
     go_quiet ((go_at_call 92; exact Calls.quiet_of_same (qbz _ _)))
     go_wp2_with (go_at_call 93; refine (cmp_u8 _ _ _).mono ?_; rintro e w' ⟨rfl, rfl⟩)
     go_ret
     refine ⟨qaE ?_, ?_⟩
     ·rw [← HC.out, HS.out, if_neg hne]
     ·rw [HW.out]; exact ⟨_, World.drewN_drewN _ _ _⟩
    ·have heq2 : (((smallU a[k]).toNat : Int) != ((smallU b[k]).toNat : Int)) = false := by simpa using heq
     have he := u8_eq heq2
     clear heq
     go_wp2
     go_quiet ((go_at_call 92; exact Calls.quiet_of_same (qbz _ _)))
     go_wp2
     go_roundw
     case rel => exact ⟨k + 1, by go_num, by omega, by exact qH0 (by rw [← HC.out, HS.out, if_pos he]), by rw [HW.out]; exact ⟨_, World.drewN_drewN _ _ _⟩⟩
     case measure => simp [intOf]; omega
   ·obtain rfl : k = b.size := by omega
    have hend := qdz a b b.size (by omega) (by omega) (by omega)
    have HE := qH0 hend; clear hend
    go_wp2_with (go_at_call 39; refine (qa8 _ _ _).mono ?_; rintro e w' ⟨rfl, rfl⟩)
    go_ret
    exact ⟨qaE (by rw [← HC.out, HE.out]), n, HW.out⟩
 ·have hba2 : (a.size : Int) ≤ (b.size : Int) := by omega
  go_enter Tryz.func69, Tryz.ntmps69
  go_wp2
  go_loopw [13] (fun i wr => ∃ k : Nat, i = .int .i64 k ∧ k ≤ a.size ∧ Hid (qac (a.data.toList.drop k) (b.data.toList.drop k) = qac a.data.toList b.data.toList) ∧ ∃ n, wr = w.drewN n) (fun i _ => a.size - (intOf i).toNat)
  case atStart => exact ⟨0, rfl, Nat.zero_le _, by exact qH0 (by simp), 0, rfl⟩
  case round =>
   obtain ⟨k, rfl, hk, HC, n, hw⟩ := hrel
   have HW := qH0 hw; clear hw
   by_cases hlt : k < a.size
   ·have hstep := qdc a b k (by omega) (by omega)
    have HS := qH0 hstep; clear hstep
    have hka : k < a.size := by omega
    have hkb : k < b.size := by omega
    by_cases heq : (((smallU a[k]).toNat : Int) != ((smallU b[k]).toNat : Int)) = true
    ·have hne := u8_ne heq
     go_wp2
     go_quiet ((go_at_call 92; exact Calls.quiet_of_same (qbz _ _)))
     go_wp2_with (go_at_call 93; refine (cmp_u8 _ _ _).mono ?_; rintro e w' ⟨rfl, rfl⟩)
     go_ret
     refine ⟨qaE ?_, ?_⟩
     ·rw [← HC.out, HS.out, if_neg hne]
     ·rw [HW.out]; exact ⟨_, World.drewN_drewN _ _ _⟩
    ·have heq2 : (((smallU a[k]).toNat : Int) != ((smallU b[k]).toNat : Int)) = false := by simpa using heq
     have he := u8_eq heq2
     clear heq
     go_wp2
     go_quiet ((go_at_call 92; exact Calls.quiet_of_same (qbz _ _)))
     go_wp2
     go_roundw
     case rel => exact ⟨k + 1, by go_num, by omega, by exact qH0 (by rw [← HC.out, HS.out, if_pos he]), by rw [HW.out]; exact ⟨_, World.drewN_drewN _ _ _⟩⟩
     case measure => simp [intOf]; omega
   ·obtain rfl : k = a.size := by omega
    have hend := qdz a b a.size (by omega) (by omega) (by omega)
    have HE := qH0 hend; clear hend
    go_wp2_with (go_at_call 39; refine (qa8 _ _ _).mono ?_; rintro e w' ⟨rfl, rfl⟩)
    go_ret
    exact ⟨qaE (by rw [← HC.out, HE.out]), n, HW.out⟩
def sameM (a b : List UInt8) : Bool := decide (a.length = b.length ∧ qac a b = 0)
theorem qeX (a b : ByteArray) (w : World) (ha : a.size ≤ maxLen) (hb : b.size ≤ maxLen) :
 Calls Tryz.prog 36 #[.string a, .string b] w fun e w' => e = .returned (.bool (sameM a.data.toList b.data.toList)) ∧ ∃ n, w' = w.drewN n := by
 by_cases h : ((a.size : Int) == (b.size : Int)) = true
 ·have hsz : a.data.toList.length = b.data.toList.length := by rw [qb3, qb3]; have : (a.size : Int) = b.size := by simpa using h
                                                               omega
  have HS := qH0 hsz; clear hsz
  have hCa := qde a b w ha hb
  unfold maxLen at ha hb
  go_enter Tryz.func36, Tryz.ntmps36
  go_wp2_with (go_at_call 69; refine hCa.mono ?_; rintro e w' ⟨rfl, n, hn⟩; have HN := qH0 hn; clear hn)
  go_ret
  exact ⟨qbU (by show (qac _ _ == 0) = _; unfold sameM; simp only [HS.out, true_and]; rw [Bool.eq_iff_iff]; simp), n, HN.out⟩
 ·have h2 : ((a.size : Int) == (b.size : Int)) = false := by simpa using h
  have hsz : a.data.toList.length ≠ b.data.toList.length := by rw [qb3, qb3]; intro e; rw [e] at h2; simp at h2
  have HS := qH0 hsz; clear hsz h
  unfold maxLen at ha hb
  go_enter Tryz.func36, Tryz.ntmps36
  go_wp2
  go_ret
  exact ⟨qbU (by show false = _; unfold sameM; symm; apply decide_eq_false; intro h; exact HS.out h.1), 0, rfl⟩
end Go.Proofs.YtnpnfajgphpabaaGreat
