/-
  The document's names (package toponymref6): Len, CheckName, Fold.
-/
import Derived.Test.YtoohhoillblaoaaNamF2
import Derived.Test.YtoohhoillblaoaaRefC
namespace Go.Proofs.Ytoohhoillblaoaa
open Go.RowKit Go.Shelf

theorem lenN_take_le {xs : Nm} (h : NmOK xs) (k : Nat) (hk : k ≤ xs.length) : lenN (xs.take k) ≤ 1 + k * 1048577 := by
  induction k with
  | zero => simp [lenN]
  | succ k ih =>
    have h1 := h.get k (by omega)
    rw [List.take_succ_eq_append_getElem (by omega), lenN_snoc]
    have := ih (by omega)
    omega

set_option maxHeartbeats 4000000 in
theorem ref_Len (v : Value) (xs : Nm) (w : World) (hA : StrsAt w v xs) (hk : NmOK xs) :
    Calls Try.prog 18 #[v] w fun e w' => e = .returned (.int .i64 (lenN xs : Int)) ∧ w' = w := by
  obtain ⟨a, c, rfl, _⟩ := id hA
  have hl := hk.1
  obtain ⟨n, hn⟩ : ∃ n, xs.length = n := ⟨_, rfl⟩
  have hcell := fun j hj => hA.cell (Below.refl _ w) j hj
  rw [hn] at hl ⊢
  have HN := Lib.hid hn
  clear hA hn
  go_enter Try.func18, Try.ntmps18
  go_wp2
  go_loopw [3, 4] (fun u i wr => ∃ k : Nat, i = .int .i64 k ∧ k ≤ n ∧ u = .int .i64 (lenN (xs.take k) : Int) ∧ wr = w) (fun _ i _ => n - (intOf i).toNat)
  case atStart => exact ⟨0, rfl, Nat.zero_le _, rfl, rfl⟩
  case round =>
    obtain ⟨k, rfl, hkn, rfl, rfl⟩ := hrel
    by_cases hlt : k < n
    · have hkp : k < xs.length := by rw [HN.out]; exact hlt
      obtain ⟨g, off, rfl, hg, hc⟩ := hcell k hkp
      obtain ⟨s, hs0, hsz, hsv⟩ := str_of xs[k]
      rw [hsv] at hc
      have hxk := hk.get k hkp
      have hb := lenN_take_le hk k (by omega)
      have hr : lenN (xs.take (k + 1)) = lenN (xs.take k) + 1 + s.size := by rw [List.take_succ_eq_append_getElem hkp, lenN_snoc, hsz]
      have HR := Lib.hid hr
      rw [← hsz] at hxk
      clear hs0 hsz hsv hr
      generalize lenN (xs.take k) = q at *
      go_wp2
      go_roundw
      case rel => exact ⟨k + 1, by go_num, by omega, by rw [HR.out]; simp, trivial⟩
      case measure => simp [intOf]; omega
    · obtain rfl : k = n := by omega
      have hr : lenN (xs.take k) = lenN xs := by rw [List.take_of_length_le (by rw [HN.out]; exact Nat.le_refl _)]
      rw [hr]
      go_wp2
      go_ret
      exact ⟨rfl, rfl⟩

set_option maxHeartbeats 4000000 in
theorem ref_CheckName (v : Value) (xs : Nm) (w : World) (hA : StrsAt w v xs) (hk : NmOK xs) :
    Calls Try.prog 13 #[v] w fun e w' => e = .returned (.int .i64 (checkN xs)) ∧ w' = w := by
  obtain ⟨a, c, rfl, _⟩ := id hA
  have hL := ref_Len _ xs w hA hk
  have hl := hk.1
  obtain ⟨n, hn⟩ : ∃ n, xs.length = n := ⟨_, rfl⟩
  have hcell := fun j hj => hA.cell (Below.refl _ w) j hj
  rw [hn] at hl hL ⊢
  have HN := Lib.hid hn
  clear hA hn
  go_enter Try.func13, Try.ntmps13
  go_wp2
  go_loopw [3] (fun i wr => ∃ k : Nat, i = .int .i64 k ∧ k ≤ n ∧ Hid (checkL (xs.take k) = 0) ∧ wr = w) (fun i _ => n - (intOf i).toNat)
  case atStart => exact ⟨0, rfl, Nat.zero_le _, Lib.hid rfl, rfl⟩
  case round =>
    obtain ⟨k, rfl, hkn, HC, rfl⟩ := hrel
    by_cases hlt : k < n
    · have hkp : k < xs.length := by rw [HN.out]; exact hlt
      obtain ⟨g, off, rfl, hg, hc⟩ := hcell k hkp
      obtain ⟨s, hs0, hsz, hsv⟩ := str_of xs[k]
      rw [hsv] at hc
      have hxk := hk.get k hkp
      have hCk := fun W => ref_CheckLabel s W (by unfold maxLen; omega)
      rw [hs0] at hCk
      have hr : checkL (xs.take (k + 1)) = checkLabelM xs[k] := by rw [List.take_succ_eq_append_getElem hkp, checkL_snoc, if_pos HC.out]
      clear hs0 hsz hsv hxk
      generalize checkLabelM xs[k] = q at *
      by_cases hq : (q != 0) = true
      · have H0 : Hid (checkN xs = q) := Lib.hid (by rw [← hr]; exact checkN_of_stop (List.take_prefix _ _) (by rw [hr]; simpa using hq))
        clear hr
        go_wp2_with (go_at_call 41; refine (hCk _).mono ?_; rintro e w2 ⟨rfl, rfl⟩)
        go_ret
        exact ⟨by rw [H0.out]; rfl, rfl⟩
      · have hq1 : (q != 0) = false := by simpa using hq
        have HR := Lib.hid hr; have HQ := Lib.hid hq1
        clear hr hq
        go_wp2_with (go_at_call 41; refine (hCk _).mono ?_; rintro e w2 ⟨rfl, rfl⟩)
        go_roundw
        case rel => exact ⟨k + 1, by go_num, by omega, Lib.hid (by rw [HR.out]; simpa using HQ.out), trivial⟩
        case measure => simp [intOf]; omega
    · obtain rfl : k = n := by omega
      have hr : xs.take k = xs := List.take_of_length_le (by rw [HN.out]; exact Nat.le_refl _)
      rw [hr] at HC
      have hd : checkN xs = if 255 < (lenN xs : Int) then 3 else 0 := by
        unfold checkN; rw [if_pos HC.out]
        by_cases h : 255 < lenN xs
        · rw [if_pos h, if_pos (by omega)]
        · rw [if_neg h, if_neg (by omega)]
      have HD := Lib.hid hd
      clear hr hd
      generalize lenN xs = q at *
      go_wp2_with (go_at_call 18; refine hL.mono ?_; rintro e w2 ⟨rfl, rfl⟩)
      · go_ret
        exact ⟨by rw [HD.out, if_pos (by assumption)]; rfl, rfl⟩
      · go_ret
        exact ⟨by rw [HD.out, if_neg (by omega)]; rfl, rfl⟩

set_option maxHeartbeats 4000000 in
theorem ref_Fold (v : Value) (xs : Nm) (w : World) (hA : StrsAt w v xs) (hk : NmOK xs) :
    Calls Try.prog 21 #[v] w (CopyPost (foldN xs) w) := by
  obtain ⟨a, c, rfl, _⟩ := id hA
  have hl := hk.1
  obtain ⟨n, hn⟩ : ∃ n, xs.length = n := ⟨_, rfl⟩
  have hcell := fun W' (hb : Below w.heap.size w W') j hj => hA.cell hb j hj
  rw [hn] at hl ⊢
  have HN := Lib.hid hn
  clear hA hn
  go_enter Try.func21, Try.ntmps21
  go_wp2
  go_loopw [3, 4] (fun u i wr => ∃ (k : Nat) (fs : Nm), i = .int .i64 k ∧ k ≤ n ∧ fs.length = k ∧ OwnG 9 strV wr w.heap.size u fs ∧ Below w.heap.size w wr ∧ Hid (foldN (xs.take k) = fs)) (fun _ i _ => n - (intOf i).toNat)
  case atStart => exact ⟨0, [], rfl, Nat.zero_le _, rfl, OwnG.nil _ _, Below.refl _ _, Lib.hid rfl⟩
  case round =>
    obtain ⟨k, fs, rfl, hkn, hfk, hown, hB, HF⟩ := hrel
    obtain ⟨au, cu, rfl⟩ := hown.shape
    generalize hfl : fs.length = fl at *
    have HFL := Lib.hid hfl; have HFK := Lib.hid hfk
    clear hfl hfk
    by_cases hlt : k < n
    · have hkp : k < xs.length := by rw [HN.out]; exact hlt
      obtain ⟨g, off, rfl, hg, hc⟩ := hcell wr hB k hkp
      obtain ⟨s, hs0, hsz, hsv⟩ := str_of xs[k]
      rw [hsv] at hc
      have hxk := hk.get k hkp
      have hFd := fun W => ref_FoldLabel s W (by omega)
      rw [hs0] at hFd
      have hr : foldN (xs.take (k + 1)) = fs ++ [foldL xs[k]] := by rw [List.take_succ_eq_append_getElem hkp, foldN_snoc, HF.out]
      have HR := Lib.hid hr
      clear hs0 hsz hsv hxk hr
      generalize foldL xs[k] = y at *
      have hcl : [Value.string ⟨y.toArray⟩] = [y].map strV := rfl
      have HCL := Lib.hid hcl; clear hcl
      generalize (⟨y.toArray⟩ : ByteArray) = sy at *
      have hBz := hB.size
      go_wp2_with (first | (go_at_call 47; refine (hFd _).mono ?_; rintro e w2 ⟨rfl, hb2⟩; have hown2 := hown.below hb2; have hB2 := hB.trans (hb2.mono hBz)) | (at_builtin; refine wpl_append_g w2 rfl (.tmp 11) (.tmp 17) elemStr rfl strV_one w.heap.size (.slice au fl cu) fs rfl hown2 [.string sy] [y] HCL.out 1 1 rfl rfl hB2.size (by have := HFK.out; have := HFL.out; unfold maxLen; simp; omega) (by have := HFK.out; have := HFL.out; simp; omega) ?_; intro v3 w3 hown3 hg3; have hB3 : Below w.heap.size w w3 := hB2.grown hg3 hB2.size hown2.base_le))
      go_roundw
      case rel => exact ⟨k + 1, fs ++ [y], by go_num, by omega, by have := HFK.out; have := HFL.out; simp; omega, hown3, hB3, HR⟩
      case measure => simp [intOf]; omega
    · obtain rfl : k = n := by omega
      have hr : foldN xs = fs := by rw [← HF.out, List.take_of_length_le (by rw [HN.out]; exact Nat.le_refl _)]
      have HR := Lib.hid hr; clear hr
      go_wp2
      go_ret
      exact ⟨_, rfl, by rw [HR.out]; exact hown, hB⟩
end Go.Proofs.Ytoohhoillblaoaa
