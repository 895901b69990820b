/-
  The document's names (package toponymref6): Len, CheckName, Fold.
-/
import Derived.Test.YtnpnfajgphpabaaMQ36
import Derived.Test.YtnpnfajgphpabaaMQ20
namespace Go.Proofs.Ytnpnfajgphpabaa
set_option linter.unusedVariables false
set_option linter.unusedSimpArgs false
set_option maxRecDepth 20000
open Go.RowKit Go.Shelf

theorem lenN_take_le {xs : Nm} (h : NmOK xs) (k : Nat) (hk : k ≤ xs.length) : lenN (xs.take k) ≤ 1 + k * 1048577 := by
  induction k with
  | zero => simp [lenN]
  | succ k ih =>
    have h1 := h.get k (by omega)
    rw [List.take_succ_eq_append_getElem (by omega), lenN_snoc]
    have := ih (by omega)
    omega

set_option maxHeartbeats 4000000 in
theorem ref_Fold (v : Value) (xs : Nm) (w : World) (hA : StrsAt w v xs) (hk : NmOK xs) :
    Calls Try.prog 32 #[v] w (CopyPost (foldN xs) w) := by
  obtain ⟨a, c, rfl, _⟩ := id hA
  have hl := hk.1
  obtain ⟨n, hn⟩ : ∃ n, xs.length = n := ⟨_, rfl⟩
  have hcell := fun W' (hb : Below w.heap.size w W') j hj => hA.cell hb j hj
  rw [hn] at hl ⊢
  have HN := Lib.hid hn
  clear hA hn
  go_enter Try.func32, Try.ntmps32
  go_wp2
  go_loopw [3, 4] (fun u i wr => ∃ (k : Nat) (fs : Nm), i = .int .i64 k ∧ k ≤ n ∧ fs.length = k ∧ OwnG 9 strV wr w.heap.size u fs ∧ Below w.heap.size w wr ∧ Hid (foldN (xs.take k) = fs)) (fun _ i _ => n - (intOf i).toNat)
  case atStart => exact ⟨0, [], rfl, Nat.zero_le _, rfl, OwnG.nil _ _, Below.refl _ _, Lib.hid rfl⟩
  case round =>
    obtain ⟨k, fs, rfl, hkn, hfk, hown, hB, HF⟩ := hrel
    obtain ⟨au, cu, rfl⟩ := hown.shape
    generalize hfl : fs.length = fl at *
    have HFL := Lib.hid hfl; have HFK := Lib.hid hfk
    clear hfl hfk
    by_cases hlt : k < n
    · have hkp : k < xs.length := by rw [HN.out]; exact hlt
      obtain ⟨g, off, rfl, hg, hc⟩ := hcell wr hB k hkp
      obtain ⟨s, hs0, hsz, hsv⟩ := str_of xs[k]
      rw [hsv] at hc
      have hxk := hk.get k hkp
      have hFd := fun W => ref_FoldLabel s W (by omega)
      rw [hs0] at hFd
      have hr : foldN (xs.take (k + 1)) = fs ++ [foldL xs[k]] := by rw [List.take_succ_eq_append_getElem hkp, foldN_snoc, HF.out]
      have HR := Lib.hid hr
      clear hs0 hsz hsv hxk hr
      generalize foldL xs[k] = y at *
      have hcl : [Value.string ⟨y.toArray⟩] = [y].map strV := rfl
      have HCL := Lib.hid hcl; clear hcl
      generalize (⟨y.toArray⟩ : ByteArray) = sy at *
      have hBz := hB.size
      go_wp2_with (first | (go_at_call 35; refine (hFd _).mono ?_; rintro e w2 ⟨rfl, hb2⟩; have hown2 := hown.below hb2; have hB2 := hB.trans (hb2.mono hBz)) | (at_builtin; refine wpl_append_g w2 rfl (.tmp 11) (.tmp 17) elemStr rfl strV_one w.heap.size (.slice au fl cu) fs rfl hown2 [.string sy] [y] HCL.out 1 1 rfl rfl hB2.size (by have := HFK.out; have := HFL.out; unfold maxLen; simp; omega) (by have := HFK.out; have := HFL.out; simp; omega) ?_; intro v3 w3 hown3 hg3; have hB3 : Below w.heap.size w w3 := hB2.grown hg3 hB2.size hown2.base_le))
      go_roundw
      case rel => exact ⟨k + 1, fs ++ [y], by go_num, by omega, by have := HFK.out; have := HFL.out; simp; omega, hown3, hB3, HR⟩
      case measure => simp [intOf]; omega
    · obtain rfl : k = n := by omega
      have hr : foldN xs = fs := by rw [← HF.out, List.take_of_length_le (by rw [HN.out]; exact Nat.le_refl _)]
      have HR := Lib.hid hr; clear hr
      go_wp2
      go_ret
      exact ⟨_, rfl, by rw [HR.out]; exact hown, hB⟩
end Go.Proofs.Ytnpnfajgphpabaa

/-
  The document's names (package toponymref6): Parent, Child, Wild, sign.
-/
namespace Go.Proofs.Ytnpnfajgphpabaa
set_option linter.unusedVariables false
set_option linter.unusedSimpArgs false
set_option maxRecDepth 20000
open Go.RowKit Go.Shelf

/-- A slice of strings, for reading. -/
def NmAt (W : World) (v : Value) (xs : Nm) : Prop := StrsAt W v xs ∧ SlOK v
theorem NmAt.below {W W' : World} {v : Value} {xs : Nm} (h : NmAt W v xs) (hb : Below W.heap.size W W') : NmAt W' v xs := ⟨h.1.below hb, h.2⟩
theorem OwnG.nmAt {W : World} {base : Nat} {v : Value} {xs : Nm} (h : OwnG 9 strV W base v xs) : NmAt W v xs := ⟨StrsAt.of_own h, h.slOK⟩

set_option maxHeartbeats 2000000 in
theorem ref_sign (n : Int) (w : World) : Calls Try.prog 63 #[.int .i64 n] w fun e w' => e = .returned (.int .i64 (cmpI n 0)) ∧ w' = w := by
  unfold cmpI
  by_cases h1 : n < 0
  · rw [if_pos h1]
    go_enter Try.func63, Try.ntmps63
    go_wp2
    go_ret
    exact ⟨rfl, rfl⟩
  · rw [if_neg h1]
    by_cases h2 : 0 < n
    · rw [if_pos h2]
      go_enter Try.func63, Try.ntmps63
      go_wp2
      go_ret
      exact ⟨rfl, rfl⟩
    · rw [if_neg h2]
      go_enter Try.func63, Try.ntmps63
      go_wp2
      go_ret
      exact ⟨rfl, rfl⟩

end Go.Proofs.Ytnpnfajgphpabaa

