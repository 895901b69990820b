/-
  Ten at base 16 by FormatInt; braces shown.
-/
import Derived.Test.YtgalihmmlcnahaaDoorGenE
namespace Go.Proofs.YtgalihmmlcnahaaDoor
open Go.RowKit Go.Shelf Go.Sort
set_option maxRecDepth 20000
set_option linter.unusedVariables false
set_option linter.unusedSimpArgs false

theorem istrconv_FormatTen (w : World) (hZ : TabG w) :
    Calls Tryd.prog 38 #[.int .i64 10, .int .i64 16] w fun e w' => e = .returned (.string ⟨#[97]⟩) ∧ Below w.heap.size w w' := by
  have hF := formatBitsTen w hZ
  have hw : IntKind.u64.wrap (10 : Int) = 10 := by decide
  go_enter Tryd.func38, Tryd.ntmps38
  go_wp2_with (go_at_call 56; refine hF.mono ?_; rintro e w2 ⟨rfl, hb⟩)
  go_ret
  exact ⟨rfl, hb⟩
theorem strconv_FormatTen (w : World) (hZ : TabG w) :
    Calls Tryd.prog 35 #[.int .i64 10, .int .i64 16] w fun e w' => e = .returned (.string ⟨#[97]⟩) ∧ Below w.heap.size w w' := by
  have h := istrconv_FormatTen w hZ
  go_enter Tryd.func35, Tryd.ntmps35
  go_wp2_with (go_at_call 38; refine h.mono ?_; rintro e w2 ⟨rfl, hb⟩)
  go_ret
  exact ⟨rfl, hb⟩
set_option maxHeartbeats 2000000 in
theorem show_x10 (o : Int) (w : World) (hZ : TabG w) :
    Calls Tryd.prog 28 #[.agg #[.int .i64 o, .int .i64 3, .string ⟨#[120]⟩], .int .i64 10] w fun e w' => e = .returned (.string ⟨#[48, 48, 97]⟩) ∧ Below w.heap.size w w' := by
  have hF : ∀ W, TabG W → Calls Tryd.prog 35 #[.int .i64 10, .int .i64 16] W fun e w' => e = .returned (.string ⟨#[97]⟩) ∧ Below W.heap.size W w' := fun W h => strconv_FormatTen W h
  have hR : ∀ W, Calls Tryd.prog 37 #[.string ⟨#[48]⟩, .int .i64 2] W fun e w' => e = .returned (.string ⟨#[48, 48]⟩) ∧ Below W.heap.size W w' := fun W => Tryd.strings_Repeat ⟨#[48]⟩ 2 W (by omega) (by decide)
  have hk := knew w (.cells #[.int .i64 o, .int .i64 3, .string ⟨#[120]⟩] 67)
  have hB0 := Lib.hid ((Below.refl w.heap.size w).alloc (Nat.le_refl _) (.cells #[.int .i64 o, .int .i64 3, .string ⟨#[120]⟩] 67))
  have hadd := fun W => run_string_add_sum (P := Tryd.prog) W ⟨#[48, 48]⟩ ⟨#[97]⟩ (by decide)
  have hcat : (⟨#[48, 48]⟩ : ByteArray) ++ ⟨#[97]⟩ = ⟨#[48, 48, 97]⟩ := mk_append [48, 48] [97]
  rw [hcat] at hadd
  go_enter Tryd.func28, Tryd.ntmps28
  go_wp2_with (first | (go_at_call 35; refine (hF _ (hZ.below hB0.out)).mono ?_; rintro e w2 ⟨rfl, hb⟩; have hk2 := (hb.block w.heap.size (kblock_lt hk)).trans hk; have hc1 := kcell hk2 1 (.int .i64 3) rfl; have hc2 := kcell hk2 2 (.string ⟨#[120]⟩) rfl) | (go_at_call 37; refine (hR _).mono ?_; rintro e w3 ⟨rfl, hb3⟩))
  go_ret
  exact ⟨rfl, (hB0.out.trans (hb.mono (by simp))).trans (hb3.mono (by have := hb.size; simp at this; omega))⟩
theorem dec_len5 (u : Nat) (h : u < 65536) : (Lib.decDigits u).length ≤ 5 := by
  rw [Lib.decDigits_length]
  have : ∀ k u, u < 10 ^ k → Lib.nDigits u ≤ max k 1 := by
    intro k
    induction k with
    | zero => intro u h; rw [Lib.nDigits_small (by simp at h; omega)]; omega
    | succ k ih =>
      intro u h
      rw [Lib.nDigits]
      by_cases h10 : u < 10
      · rw [dif_pos h10]; omega
      · rw [dif_neg h10]
        have := ih (u / 10) (by rw [Nat.pow_succ] at h; omega)
        rcases k with _ | k
        · simp at h; omega
        · omega
  have := this 5 u (by omega)
  omega
/-- What show answers at base d and width 6. -/
def show6 (n : Nat) : List UInt8 := Lib.repeatL [48] (6 - (Lib.decDigits n).length) ++ Lib.decDigits n
set_option maxHeartbeats 2000000 in
theorem show_d (o : Int) (n : Nat) (hn : n < 65536) (w : World) (hP : TabP w) :
    Calls Tryd.prog 28 #[.agg #[.int .i64 o, .int .i64 6, .string ⟨#[100]⟩], .int .i64 (n : Int)] w fun e w' => e = .returned (.string ⟨(show6 n).toArray⟩) ∧ Below w.heap.size w w' := by
  obtain ⟨dt, hdt⟩ : ∃ dt : ByteArray, (⟨(Lib.decDigits n).toArray⟩ : ByteArray) = dt := ⟨_, rfl⟩
  have hsz : dt.size = (Lib.decDigits n).length := by rw [← hdt]; exact mk_size _
  have hl5 := dec_len5 n hn
  obtain ⟨m, hm⟩ : ∃ m : Nat, 6 - dt.size = m := ⟨_, rfl⟩
  obtain ⟨rp, hrp⟩ : ∃ rp : ByteArray, (⟨(Lib.repeatL [48] m).toArray⟩ : ByteArray) = rp := ⟨_, rfl⟩
  have hF : ∀ W, TabP W → Calls Tryd.prog 35 #[.int .i64 (n : Int), .int .i64 10] W fun e w' => e = .returned (.string dt) ∧ Below W.heap.size W w' := fun W h => by
    refine (Tryd.strconv_FormatInt_10 n (by omega) (by omega) W h).mono ?_
    rintro e w' ⟨he, k, os, rfl⟩
    refine ⟨?_, Lib.below_grow _ W (Nat.le_refl _) k os⟩
    rw [he, ← hdt, Lib.itoa_nonneg]
  have hR : ∀ W, Calls Tryd.prog 37 #[.string ⟨#[48]⟩, .int .i64 (m : Int)] W fun e w' => e = .returned (.string rp) ∧ Below W.heap.size W w' := fun W => by
    rw [← hrp]
    exact Tryd.strings_Repeat ⟨#[48]⟩ m W (by omega) (by show 1 * m ≤ _; omega)
  have hk := knew w (.cells #[.int .i64 o, .int .i64 6, .string ⟨#[100]⟩] 67)
  have hB0 := Lib.hid ((Below.refl w.heap.size w).alloc (Nat.le_refl _) (.cells #[.int .i64 o, .int .i64 6, .string ⟨#[100]⟩] 67))
  have hcat : rp ++ dt = ⟨(show6 n).toArray⟩ := by
    rw [← hrp, ← hdt, show6, ← hsz, hm]
    exact mk_append _ _
  have hrl : rp.size ≤ 6 := by
    rw [← hrp, mk_size, Lib.repeatL_length]
    simp; omega
  have hadd := fun W => run_string_add_sum (P := Tryd.prog) W rp dt (by omega)
  rw [hcat] at hadd
  have hsub : IntKind.i64.wrap (6 - (dt.size : Int)) = 6 - (dt.size : Int) := by rw [IntKind.wrap_i64]; omega
  have hmax : max (6 - (dt.size : Int)) 0 = (m : Int) := by omega
  generalize (⟨(show6 n).toArray⟩ : ByteArray) = S at *
  clear hdt hrp hcat hsz hl5 hm hrl hn
  go_enter Tryd.func28, Tryd.ntmps28
  go_wp2_with (first | (go_at_call 35; refine (hF _ (hP.below hB0.out)).mono ?_; rintro e w2 ⟨rfl, hb⟩; have hk2 := (hb.block w.heap.size (kblock_lt hk)).trans hk; have hc1 := kcell hk2 1 (.int .i64 6) rfl; have hc2 := kcell hk2 2 (.string ⟨#[100]⟩) rfl) | (go_at_call 37; refine (hR _).mono ?_; rintro e w3 ⟨rfl, hb3⟩))
  go_ret
  exact ⟨rfl, (hB0.out.trans (hb.mono (by simp))).trans (hb3.mono (by have := hb.size; simp at this; omega))⟩
end Go.Proofs.YtgalihmmlcnahaaDoor
