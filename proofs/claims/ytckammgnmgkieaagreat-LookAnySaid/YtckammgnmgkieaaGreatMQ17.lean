import Derived.Deep.QuietTactic
import Derived.Lib.IndexBytes
import Derived.Test.YtckammgnmgkieaaGreatMQ40
namespace Go.Proofs.YtckammgnmgkieaaGreat
set_option maxRecDepth 20000
open Go.RowKit Go.Shelf
def foldL (l : List UInt8) : List UInt8 := l.map smallU
section
attribute [local go_sem] Oper.semAt_some
end
end Go.Proofs.YtckammgnmgkieaaGreat
namespace Go.Proofs.YtckammgnmgkieaaGreat
set_option maxRecDepth 20000
set_option maxHeartbeats 2000000
open Go.RowKit Go.Shelf
def cmpI (a b : Int) : Int := if a < b then -1 else if b < a then 1 else 0
theorem nan_u8 (a : Int) (w : World) : Calls Tryz.prog 201 #[.int .u8 a] w fun e w' => e = .returned (.bool false) ∧ w = w' := by
 go_enter Tryz.func201, Tryz.ntmps201
 go_wp2
 go_ret
 exact ⟨qbs (by simp), rfl⟩
theorem qmX (a : Int) (w : World) : Calls Tryz.prog 169 #[.int .i64 a] w fun e w' => e = .returned (.bool false) ∧ w = w' := by
 go_enter Tryz.func169, Tryz.ntmps169
 go_wp2
 go_ret
 exact ⟨qbs (by simp), rfl⟩
theorem cmp_u8 (a b : Int) (w : World) : Calls Tryz.prog 177 #[.int .u8 a, .int .u8 b] w fun e w' => e = .returned (.int .i64 (cmpI a b)) ∧ w = w' := by
 go_enter Tryz.func177, Tryz.ntmps177
 go_wp2_with (go_at_call 201; refine (nan_u8 _ _).mono ?_; rintro e w' ⟨rfl, rfl⟩)
 all_goals go_ret
 all_goals refine ⟨qaE ?_, rfl⟩
 ·have h : a < b := by assumption
  show -1 = _; rw [cmpI, if_pos h]
 ·have h : b ≤ a := by assumption
  have h2 : b < a := by assumption
  show 1 = _; rw [cmpI, if_neg (by omega), if_pos h2]
 ·have h : b ≤ a := by assumption
  have h2 : a ≤ b := by assumption
  show 0 = _; rw [cmpI, if_neg (by omega), if_neg (by omega)]
theorem qbA (a b : Int) (w : World) : Calls Tryz.prog 130 #[.int .i64 a, .int .i64 b] w fun e w' => e = .returned (.int .i64 (cmpI a b)) ∧ w = w' := by
 go_enter Tryz.func130, Tryz.ntmps130
 go_wp2_with (go_at_call 169; refine (qmX _ _).mono ?_; rintro e w' ⟨rfl, rfl⟩)
 all_goals go_ret
 all_goals refine ⟨qaE ?_, rfl⟩
 ·have h : a < b := by assumption
  show -1 = _; rw [cmpI, if_pos h]
 ·have h : b ≤ a := by assumption
  have h2 : b < a := by assumption
  show 1 = _; rw [cmpI, if_neg (by omega), if_pos h2]
 ·have h : b ≤ a := by assumption
  have h2 : a ≤ b := by assumption
  show 0 = _; rw [cmpI, if_neg (by omega), if_neg (by omega)]
def qad : List UInt8 → List UInt8 → Int
 | [], [] => 0
 | [], _ :: _ => -1
 | _ :: _, [] => 1
 | x :: a, y :: b => if smallU x = smallU y then qad a b else cmpI (smallU x).toNat (smallU y).toNat
theorem qdT (a b : ByteArray) (k : Nat) (ha : k < a.size) (hb : k < b.size) :
 qad (a.data.toList.drop k) (b.data.toList.drop k) = if smallU a[k] = smallU b[k] then qad (a.data.toList.drop (k + 1)) (b.data.toList.drop (k + 1)) else cmpI (smallU a[k]).toNat (smallU b[k]).toNat := by
 rw [qbF a k ha, qbF b k hb]; rfl
theorem qea (a b : ByteArray) (k : Nat) (h : k = a.size ∨ k = b.size) (ha : k ≤ a.size) (hb : k ≤ b.size) :
 qad (a.data.toList.drop k) (b.data.toList.drop k) = cmpI a.size b.size := by
 unfold cmpI
 rcases Nat.lt_trichotomy a.size b.size with h1 | h1 | h1
 ·obtain rfl : k = a.size := by omega
  rw [if_pos (by omega), qbF b _ h1, List.drop_eq_nil_of_le (by simp)]; rfl
 ·obtain rfl : k = a.size := by omega
  rw [if_neg (by omega), if_neg (by omega), List.drop_eq_nil_of_le (by simp), List.drop_eq_nil_of_le (by rw [qbu]; omega)]; rfl
 ·obtain rfl : k = b.size := by omega
  rw [if_neg (by omega), if_pos (by omega), qbF a _ h1, show b.data.toList.drop b.size = [] from List.drop_eq_nil_of_le (by simp)]; rfl
theorem u8_ne {x y : UInt8} (h : (((x.toNat : Int)) != (y.toNat : Int)) = true) : x ≠ y := by
 intro e; subst e; simp at h
theorem u8_eq {x y : UInt8} (h : (((x.toNat : Int)) != (y.toNat : Int)) = false) : x = y := by
 have : (x.toNat : Int) = y.toNat := by simpa using h
 exact UInt8.toNat_inj.1 (by omega)
theorem qbH (c : UInt8) (w : World) :
 Calls Tryz.prog 145 #[.int .u8 (c.toNat : Int)] w fun e w' => e = .returned (.int .u8 ((smallU c).toNat : Int)) ∧ w' = w :=
 (qiQ c w).mono fun _ _ h => ⟨h.1, h.2.symm⟩
theorem qdY (a b : ByteArray) (w : World) (ha : a.size ≤ maxLen) (hb : b.size ≤ maxLen) :
 Calls Tryz.prog 147 #[.string a, .string b] w fun e w' => e = .returned (.int .i64 (qad a.data.toList b.data.toList)) ∧ ∃ n, w' = w.drewN n := by
 unfold maxLen at ha hb
 by_cases hba : (b.size : Int) < (a.size : Int)
 ·go_enter Tryz.func147, Tryz.ntmps147
  go_wp2
  go_loopw [13] (fun i wr => ∃ k : Nat, i = .int .i64 k ∧ k ≤ b.size ∧ Hid (qad (a.data.toList.drop k) (b.data.toList.drop k) = qad a.data.toList b.data.toList) ∧ ∃ n, wr = w.drewN n) (fun i _ => b.size - (intOf i).toNat)
  case atStart => exact ⟨0, rfl, Nat.zero_le _, by exact qH0 (by simp), 0, rfl⟩
  case round =>
   obtain ⟨k, rfl, hk, HC, n, hw⟩ := hrel
   have HW := qH0 hw; clear hw
   by_cases hlt : k < b.size
   ·have hstep := qdT a b k (by omega) (by omega)
    have HS := qH0 hstep; clear hstep
    have hka : k < a.size := by omega
    have hkb : k < b.size := by omega
    by_cases heq : (((smallU a[k]).toNat : Int) != ((smallU b[k]).toNat : Int)) = true
    ·have hne := u8_ne heq
     go_wp2
     go_quiet ((go_at_call 145; exact Calls.quiet_of_same (qbH _ _)))
     go_wp2_with (go_at_call 177; refine (cmp_u8 _ _ _).mono ?_; rintro e w' ⟨rfl, rfl⟩)
     go_ret
     refine ⟨qaE ?_, ?_⟩
     ·rw [← HC.out, HS.out, if_neg hne]
     ·rw [HW.out]; exact ⟨_, World.drewN_drewN _ _ _⟩
    ·have heq2 : (((smallU a[k]).toNat : Int) != ((smallU b[k]).toNat : Int)) = false := by simpa using heq
     have he := u8_eq heq2
     clear heq
     go_wp2
     go_quiet ((go_at_call 145; exact Calls.quiet_of_same (qbH _ _)))
     go_wp2
     go_roundw
     case rel => exact ⟨k + 1, by go_num, by omega, by exact qH0 (by rw [← HC.out, HS.out, if_pos he]), by rw [HW.out]; exact ⟨_, World.drewN_drewN _ _ _⟩⟩
     case measure => simp [intOf]; omega
   ·obtain rfl : k = b.size := by omega
    have hend := qea a b b.size (by omega) (by omega) (by omega)
    have HE := qH0 hend; clear hend
    go_wp2_with (go_at_call 130; refine (qbA _ _ _).mono ?_; rintro e w' ⟨rfl, rfl⟩)
    go_ret
    exact ⟨qaE (by rw [← HC.out, HE.out]), n, HW.out⟩
 ·have hba2 : (a.size : Int) ≤ (b.size : Int) := by omega
  go_enter Tryz.func147, Tryz.ntmps147
  go_wp2
  go_loopw [13] (fun i wr => ∃ k : Nat, i = .int .i64 k ∧ k ≤ a.size ∧ Hid (qad (a.data.toList.drop k) (b.data.toList.drop k) = qad a.data.toList b.data.toList) ∧ ∃ n, wr = w.drewN n) (fun i _ => a.size - (intOf i).toNat)
  case atStart => exact ⟨0, rfl, Nat.zero_le _, by exact qH0 (by simp), 0, rfl⟩
  case round =>
   obtain ⟨k, rfl, hk, HC, n, hw⟩ := hrel
   have HW := qH0 hw; clear hw
   by_cases hlt : k < a.size
   ·have hstep := qdT a b k (by omega) (by omega)
    have HS := qH0 hstep; clear hstep
    have hka : k < a.size := by omega
    have hkb : k < b.size := by omega
    by_cases heq : (((smallU a[k]).toNat : Int) != ((smallU b[k]).toNat : Int)) = true
    ·have hne := u8_ne heq
     go_wp2
     go_quiet ((go_at_call 145; exact Calls.quiet_of_same (qbH _ _)))
     go_wp2_with (go_at_call 177; refine (cmp_u8 _ _ _).mono ?_; rintro e w' ⟨rfl, rfl⟩)
     go_ret
     refine ⟨qaE ?_, ?_⟩
     ·rw [← HC.out, HS.out, if_neg hne]
     ·rw [HW.out]; exact ⟨_, World.drewN_drewN _ _ _⟩
    ·have heq2 : (((smallU a[k]).toNat : Int) != ((smallU b[k]).toNat : Int)) = false := by simpa using heq
     have he := u8_eq heq2
     clear heq
     go_wp2
     go_quiet ((go_at_call 145; exact Calls.quiet_of_same (qbH _ _)))
     go_wp2
     go_roundw
     case rel => exact ⟨k + 1, by go_num, by omega, by exact qH0 (by rw [← HC.out, HS.out, if_pos he]), by rw [HW.out]; exact ⟨_, World.drewN_drewN _ _ _⟩⟩
     case measure => simp [intOf]; omega
   ·obtain rfl : k = a.size := by omega
    have hend := qea a b a.size (by omega) (by omega) (by omega)
    have HE := qH0 hend; clear hend
    go_wp2_with (go_at_call 130; refine (qbA _ _ _).mono ?_; rintro e w' ⟨rfl, rfl⟩)
    go_ret
    exact ⟨qaE (by rw [← HC.out, HE.out]), n, HW.out⟩
def sameM (a b : List UInt8) : Bool := decide (a.length = b.length ∧ qad a b = 0)
theorem qfD (a b : ByteArray) (w : World) (ha : a.size ≤ maxLen) (hb : b.size ≤ maxLen) :
 Calls Tryz.prog 107 #[.string a, .string b] w fun e w' => e = .returned (.bool (sameM a.data.toList b.data.toList)) ∧ ∃ n, w' = w.drewN n := by
 by_cases h : ((a.size : Int) == (b.size : Int)) = true
 ·have hsz : a.data.toList.length = b.data.toList.length := by rw [qbu, qbu]; have : (a.size : Int) = b.size := by simpa using h
                                                               omega
  have HS := qH0 hsz; clear hsz
  have hCa := qdY a b w ha hb
  unfold maxLen at ha hb
  go_enter Tryz.func107, Tryz.ntmps107
  go_wp2_with (go_at_call 147; refine hCa.mono ?_; rintro e w' ⟨rfl, n, hn⟩; have HN := qH0 hn; clear hn)
  go_ret
  exact ⟨qbs (by show (qad _ _ == 0) = _; unfold sameM; simp only [HS.out, true_and]; rw [Bool.eq_iff_iff]; simp), n, HN.out⟩
 ·have h2 : ((a.size : Int) == (b.size : Int)) = false := by simpa using h
  have hsz : a.data.toList.length ≠ b.data.toList.length := by rw [qbu, qbu]; intro e; rw [e] at h2; simp at h2
  have HS := qH0 hsz; clear hsz h
  unfold maxLen at ha hb
  go_enter Tryz.func107, Tryz.ntmps107
  go_wp2
  go_ret
  exact ⟨qbs (by show false = _; unfold sameM; symm; apply decide_eq_false; intro h; exact HS.out h.1), 0, rfl⟩
def readM : List UInt8 → UInt8 × Nat × Int
 | [] => (0, 0, 2)
 | x :: r =>
  if x = 46 then (0, 0, 2) else if x ≠ 92 then (x, 1, 0) else
  match r with
  | [] => (0, 0, 2)
  | y :: r2 =>
   if digitU y = false then (y, 2, 0) else
   match r2 with
   | z :: u :: _ =>
    if digitU z = true ∧ digitU u = true then
     if 255 < (y.toNat - 48) * 100 + (z.toNat - 48) * 10 + (u.toNat - 48) then (0, 0, 7) else (UInt8.ofNat ((y.toNat - 48) * 100 + (z.toNat - 48) * 10 + (u.toNat - 48)), 4, 0)
    else (0, 0, 2)
   | _ => (0, 0, 2)
theorem u8_is {x : UInt8} {n : Nat} (hn : n < 256) (h : ((x.toNat : Int) == (n : Int)) = true) : x = UInt8.ofNat n := by
 apply UInt8.toNat_inj.1
 have : (x.toNat : Int) = n := by simpa using h
 rw [UInt8.toNat_ofNat']; omega
def scanM : Nat → List UInt8 → List UInt8 × Int
 | _, [] => ([], 0)
 | 0, _ :: _ => ([], 2)
 | n + 1, x :: r =>
  if (readM (x :: r)).2.2 = 0 then
   (if (scanM n ((x :: r).drop (readM (x :: r)).2.1)).2 = 0 then ((readM (x :: r)).1 :: (scanM n ((x :: r).drop (readM (x :: r)).2.1)).1, 0) else ([], (scanM n ((x :: r).drop (readM (x :: r)).2.1)).2))
  else ([], (readM (x :: r)).2.2)
def scan (l : List UInt8) : List UInt8 × Int := scanM l.length l
def join (xs : List UInt8) (t : List UInt8 × Int) : List UInt8 × Int := if t.2 = 0 then (xs ++ t.1, 0) else ([], t.2)
def parseM (l : List UInt8) : List UInt8 × Int :=
 if (scan l).2 = 0 then (if qam (scan l).1 = 0 then ((scan l).1, 0) else ([], qam (scan l).1)) else ([], (scan l).2)
theorem qfx {l : List UInt8} (h0 : l ≠ []) (h : (readM l).2.2 = 0) : 1 ≤ (readM l).2.1 ∧ (readM l).2.1 ≤ 4 ∧ (readM l).2.1 ≤ l.length := by
 match l, h0 with
 | x :: r, _ =>
  simp only [readM] at h ⊢
  by_cases h1 : x = 46
  ·simp [h1] at h
  by_cases h2 : x = 92
  ·simp only [h2, ne_eq, not_true_eq_false, if_false, show ¬ (92 : UInt8) = 46 from by decide] at h ⊢
   match r with
   | [] => simp at h
   | [y] => by_cases g : digitU y = false <;> simp [g] at h ⊢
   | [y, z] => by_cases g : digitU y = false <;> simp [g] at h ⊢
   | y :: z :: u :: r3 =>
    by_cases g : digitU y = false
    ·simp [g]
    by_cases g2 : digitU z = true ∧ digitU u = true
    ·by_cases g3 : 255 < (y.toNat - 48) * 100 + (z.toNat - 48) * 10 + (u.toNat - 48)
     ·simp [g, g2, g3] at h
     ·simp [g, g2, g3]
    ·simp [g, g2] at h
  ·simp [h1, h2]
theorem qjN : ∀ (n : Nat) (l : List UInt8), l.length ≤ n → scanM n l = scan l := by
 intro n
 induction n using Nat.strongRecOn with
 | _ n ih =>
  intro l hl
  match l, n with
  | [], _ => simp [scanM, scan]
  | x :: r, 0 => simp at hl
  | x :: r, n + 1 =>
   unfold scan
   simp only [List.length_cons, scanM]
   by_cases h : (readM (x :: r)).2.2 = 0
   ·have hs := qfx (by simp) h
    have hd : ((x :: r).drop (readM (x :: r)).2.1).length ≤ r.length := by simp at hs ⊢; omega
    simp only [List.length_cons] at hl
    have e1 := ih n (by omega) _ (Nat.le_trans hd (by omega))
    rw [e1]
    by_cases hn : r.length = n
    ·rw [hn, e1]
    ·rw [ih r.length (by omega) _ hd]
   ·simp [h]
theorem qmZ {l : List UInt8} (h0 : l ≠ []) (h : (readM l).2.2 = 0) : scan l = join [(readM l).1] (scan (l.drop (readM l).2.1)) := by
 match l, h0 with
 | x :: r, _ =>
  have hs := qfx (l := x :: r) (by simp) h
  have hd : ((x :: r).drop (readM (x :: r)).2.1).length ≤ r.length := by simp at hs ⊢; omega
  have e : scan (x :: r) = scanM (r.length + 1) (x :: r) := rfl
  rw [e, scanM, if_pos h, qjN _ _ hd]
  unfold join; simp
def QW (W W' : World) : Prop := ∃ n, W' = W.drewN n
theorem QW.own {W W' : World} (h : QW W W') {base : Nat} {v : Value} {xs : List UInt8} (ho : OwnU8 W base v xs) : OwnU8 W' base v xs := by obtain ⟨n, rfl⟩ := h; exact ho
theorem QW.below {W W' : World} (h : QW W W') {B : Nat} {w : World} (hb : Below B w W) : Below B w W' := by obtain ⟨n, rfl⟩ := h; exact below_drewN hb n
theorem QW.size {W W' : World} (h : QW W W') : W'.heap.size = W.heap.size := by obtain ⟨n, rfl⟩ := h; rfl
end Go.Proofs.YtckammgnmgkieaaGreat
