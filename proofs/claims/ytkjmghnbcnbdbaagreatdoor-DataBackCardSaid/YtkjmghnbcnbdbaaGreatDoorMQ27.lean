/-
  The document's names (package toponymref6): Len, CheckName, Fold.
-/
import Derived.Test.YtkjmghnbcnbdbaaGreatDoorMQ15
import Derived.Test.YtkjmghnbcnbdbaaGreatDoorMQ38
namespace Go.Proofs.YtkjmghnbcnbdbaaGreatDoor
set_option maxRecDepth 20000
open Go.RowKit Go.Shelf

theorem lenN_take_le {xs : Nm} (h : NmOK xs) (k : Nat) (hk : k ≤ xs.length) : lenN (xs.take k) ≤ 1 + k * 1048577 := by
  induction k with
  | zero => simp [lenN]
  | succ k ih =>
    have h1 := h.get k (by omega)
    rw [List.take_succ_eq_append_getElem (by omega), lenN_snoc]
    have := ih (by omega)
    omega

set_option maxHeartbeats 4000000 in
theorem ref_Len (v : Value) (xs : Nm) (w : World) (hA : StrsAt w v xs) (hk : NmOK xs) :
    Calls Tryz.prog 59 #[v] w fun e w' => e = .returned (.int .i64 (lenN xs : Int)) ∧ w' = w := by
  obtain ⟨a, c, rfl, _⟩ := id hA
  have hl := hk.1
  obtain ⟨n, hn⟩ : ∃ n, xs.length = n := ⟨_, rfl⟩
  have hcell := fun j hj => hA.cell (Below.refl _ w) j hj
  rw [hn] at hl ⊢
  have HN := Lib.hid hn
  clear hA hn
  go_enter Tryz.func59, Tryz.ntmps59
  go_wp2
  go_loopw [3, 4] (fun u i wr => ∃ k : Nat, i = .int .i64 k ∧ k ≤ n ∧ u = .int .i64 (lenN (xs.take k) : Int) ∧ wr = w) (fun _ i _ => n - (intOf i).toNat)
  case atStart => exact ⟨0, rfl, Nat.zero_le _, rfl, rfl⟩
  case round =>
    obtain ⟨k, rfl, hkn, rfl, rfl⟩ := hrel
    by_cases hlt : k < n
    · have hkp : k < xs.length := by rw [HN.out]; exact hlt
      obtain ⟨g, off, rfl, hg, hc⟩ := hcell k hkp
      obtain ⟨s, hs0, hsz, hsv⟩ := str_of xs[k]
      rw [hsv] at hc
      have hxk := hk.get k hkp
      have hb := lenN_take_le hk k (by omega)
      have hr : lenN (xs.take (k + 1)) = lenN (xs.take k) + 1 + s.size := by rw [List.take_succ_eq_append_getElem hkp, lenN_snoc, hsz]
      have HR := Lib.hid hr
      rw [← hsz] at hxk
      clear hs0 hsz hsv hr
      generalize lenN (xs.take k) = q at *
      go_wp2
      go_roundw
      case rel => exact ⟨k + 1, by go_num, by omega, by rw [HR.out]; simp, trivial⟩
      case measure => simp [intOf]; omega
    · obtain rfl : k = n := by omega
      have hr : lenN (xs.take k) = lenN xs := by rw [List.take_of_length_le (by rw [HN.out]; exact Nat.le_refl _)]
      rw [hr]
      go_wp2
      go_ret
      exact ⟨rfl, rfl⟩

set_option maxHeartbeats 4000000 in
theorem ref_CheckName (v : Value) (xs : Nm) (w : World) (hA : StrsAt w v xs) (hk : NmOK xs) :
    Calls Tryz.prog 24 #[v] w fun e w' => e = .returned (.int .i64 (checkN xs)) ∧ w' = w := by
  obtain ⟨a, c, rfl, _⟩ := id hA
  have hL := ref_Len _ xs w hA hk
  have hl := hk.1
  obtain ⟨n, hn⟩ : ∃ n, xs.length = n := ⟨_, rfl⟩
  have hcell := fun j hj => hA.cell (Below.refl _ w) j hj
  rw [hn] at hl hL ⊢
  have HN := Lib.hid hn
  clear hA hn
  go_enter Tryz.func24, Tryz.ntmps24
  go_wp2
  go_loopw [3] (fun i wr => ∃ k : Nat, i = .int .i64 k ∧ k ≤ n ∧ Hid (checkL (xs.take k) = 0) ∧ wr = w) (fun i _ => n - (intOf i).toNat)
  case atStart => exact ⟨0, rfl, Nat.zero_le _, Lib.hid rfl, rfl⟩
  case round =>
    obtain ⟨k, rfl, hkn, HC, rfl⟩ := hrel
    by_cases hlt : k < n
    · have hkp : k < xs.length := by rw [HN.out]; exact hlt
      obtain ⟨g, off, rfl, hg, hc⟩ := hcell k hkp
      obtain ⟨s, hs0, hsz, hsv⟩ := str_of xs[k]
      rw [hsv] at hc
      have hxk := hk.get k hkp
      have hCk := fun W => ref_CheckLabel s W (by unfold maxLen; omega)
      rw [hs0] at hCk
      have hr : checkL (xs.take (k + 1)) = checkLabelM xs[k] := by rw [List.take_succ_eq_append_getElem hkp, checkL_snoc, if_pos HC.out]
      clear hs0 hsz hsv hxk
      generalize checkLabelM xs[k] = q at *
      by_cases hq : (q != 0) = true
      · have H0 : Hid (checkN xs = q) := Lib.hid (by rw [← hr]; exact checkN_of_stop (List.take_prefix _ _) (by rw [hr]; simpa using hq))
        clear hr
        go_wp2_with (go_at_call 58; refine (hCk _).mono ?_; rintro e w2 ⟨rfl, rfl⟩)
        go_ret
        exact ⟨by rw [H0.out]; rfl, rfl⟩
      · have hq1 : (q != 0) = false := by simpa using hq
        have HR := Lib.hid hr; have HQ := Lib.hid hq1
        clear hr hq
        go_wp2_with (go_at_call 58; refine (hCk _).mono ?_; rintro e w2 ⟨rfl, rfl⟩)
        go_roundw
        case rel => exact ⟨k + 1, by go_num, by omega, Lib.hid (by rw [HR.out]; simpa using HQ.out), trivial⟩
        case measure => simp [intOf]; omega
    · obtain rfl : k = n := by omega
      have hr : xs.take k = xs := List.take_of_length_le (by rw [HN.out]; exact Nat.le_refl _)
      rw [hr] at HC
      have hd : checkN xs = if 255 < (lenN xs : Int) then 3 else 0 := by
        unfold checkN; rw [if_pos HC.out]
        by_cases h : 255 < lenN xs
        · rw [if_pos h, if_pos (by omega)]
        · rw [if_neg h, if_neg (by omega)]
      have HD := Lib.hid hd
      clear hr hd
      generalize lenN xs = q at *
      go_wp2_with (go_at_call 59; refine hL.mono ?_; rintro e w2 ⟨rfl, rfl⟩)
      · go_ret
        exact ⟨by rw [HD.out, if_pos (by assumption)]; rfl, rfl⟩
      · go_ret
        exact ⟨by rw [HD.out, if_neg (by omega)]; rfl, rfl⟩

end Go.Proofs.YtkjmghnbcnbdbaaGreatDoor

/-
  The document's names (package toponymref6): Parent, Child, Wild, sign.
-/
namespace Go.Proofs.YtkjmghnbcnbdbaaGreatDoor
set_option maxRecDepth 20000
open Go.RowKit Go.Shelf

/-- A slice of strings, for reading. -/
def NmAt (W : World) (v : Value) (xs : Nm) : Prop := StrsAt W v xs ∧ SlOK v
theorem NmAt.below {W W' : World} {v : Value} {xs : Nm} (h : NmAt W v xs) (hb : Below W.heap.size W W') : NmAt W' v xs := ⟨h.1.below hb, h.2⟩
theorem OwnG.nmAt {W : World} {base : Nat} {v : Value} {xs : Nm} (h : OwnG 9 strV W base v xs) : NmAt W v xs := ⟨StrsAt.of_own h, h.slOK⟩

set_option maxHeartbeats 2000000 in
theorem ref_sign (n : Int) (w : World) : Calls Tryz.prog 41 #[.int .i64 n] w fun e w' => e = .returned (.int .i64 (cmpI n 0)) ∧ w' = w := by
  unfold cmpI
  by_cases h1 : n < 0
  · rw [if_pos h1]
    go_enter Tryz.func41, Tryz.ntmps41
    go_wp2
    go_ret
    exact ⟨rfl, rfl⟩
  · rw [if_neg h1]
    by_cases h2 : 0 < n
    · rw [if_pos h2]
      go_enter Tryz.func41, Tryz.ntmps41
      go_wp2
      go_ret
      exact ⟨rfl, rfl⟩
    · rw [if_neg h2]
      go_enter Tryz.func41, Tryz.ntmps41
      go_wp2
      go_ret
      exact ⟨rfl, rfl⟩

end Go.Proofs.YtkjmghnbcnbdbaaGreatDoor

