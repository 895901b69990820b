/-
  The document's cut.
-/
import Derived.Test.YtgalihmmlcnahaaDoorGenK
import Derived.BigQuiet
import Derived.Deep.QuietTactic
namespace Go.Proofs.YtgalihmmlcnahaaDoor
open Go.RowKit Go.Shelf Go.Sort
set_option maxRecDepth 20000
set_option linter.unusedVariables false
set_option linter.unusedSimpArgs false

theorem below_drewG {B : Nat} {a w : World} (h : Below B a w) (n : Nat) : Below B a (w.drewN n) := h.trans ⟨rfl, rfl, rfl, Nat.le_refl _, fun _ _ => rfl⟩
theorem cutA_drop (c : UInt8) : ∀ (k : Nat) (l : List UInt8), (∀ x ∈ l.take k, x ≠ c) → k ≤ l.length → cutA c l = (l.take k ++ (cutA c (l.drop k)).1, (cutA c (l.drop k)).2.1, (cutA c (l.drop k)).2.2) := by
  intro k
  induction k with
  | zero => intro l _ _; simp
  | succ k ih =>
    intro l h hk
    rcases l with _ | ⟨d, l⟩
    · simp at hk
    · rw [cutA, if_neg (h d (by simp)), ih l (fun x hx => h x (by simp [hx])) (by simpa using hk)]
      simp
set_option maxHeartbeats 2000000 in
theorem ref_cut (s : ByteArray) (c : UInt8) (w : World) (hs : s.size ≤ 1000000) :
    Calls Tryd.prog 15 #[.string s, .int .u8 (c.toNat : Int)] w fun e w' => e = .returned (.tuple #[.string ⟨(cutA c s.data.toList).1.toArray⟩, .string ⟨(cutA c s.data.toList).2.1.toArray⟩, .bool (cutA c s.data.toList).2.2]) ∧ Below w.heap.size w w' := by
  go_enter Tryd.func15, Tryd.ntmps15
  go_wp2
  go_loop [7] (fun i => ∃ k : Nat, i = .int .i64 k ∧ k ≤ s.size ∧ Hid (∀ x ∈ s.data.toList.take k, x ≠ c)) (fun i => s.size - (intOf i).toNat)
  case atStart => exact ⟨0, rfl, Nat.zero_le _, Lib.hid (by intro x hx; simp at hx)⟩
  case round =>
    obtain ⟨k, rfl, hk, HP⟩ := hrel
    have hcut := Lib.hid (cutA_drop c k s.data.toList HP.out (by rw [size_data]; exact hk))
    by_cases hlt : k < s.size
    · obtain ⟨d, hdv⟩ : ∃ d, s[k]'hlt = d := ⟨_, rfl⟩
      have hti : (k : Int) < (s.size : Int) := by omega
      have HD := Lib.hid (drop_cons_get s k hlt)
      rw [hdv] at HD
      by_cases h1 : d = c
      · subst h1
        obtain ⟨p1, hp1⟩ : ∃ p, s.extract 0 k = p := ⟨_, rfl⟩
        obtain ⟨k2, hk2⟩ : ∃ k2, k + 1 = k2 := ⟨_, rfl⟩
        obtain ⟨p2, hp2⟩ : ∃ p, s.extract k2 s.size = p := ⟨_, rfl⟩
        have hk1 : (k2 : Int) ≤ (s.size : Int) := by omega
        have hk0 : (k : Int) ≤ (s.size : Int) := by omega
        have hks : (k : Int) + 1 = (k2 : Int) := by omega
        have H1 : Hid ((cutA d s.data.toList) = (p1.data.toList, p2.data.toList, true)) := Lib.hid (by
          rw [hcut.out, HD.out, ← hp1, ← hp2, extract_data s 0 k (by omega), extract_data s k2 s.size (Nat.le_refl _), List.take_of_length_le (i := s.size) (by rw [size_data]; exact Nat.le_refl _), ← hk2]
          simp [cutA])
        have hkw : IntKind.i64.wrap (k2 : Int) = (k2 : Int) := by rw [IntKind.wrap_i64]; omega
        have hk00 : (0 : Int) ≤ (k : Int) := by omega
        have hk20 : (0 : Int) ≤ (k2 : Int) := by omega
        clear HD hcut hk2
        go_wp2
        go_quiet (fail)
        go_wp2
        go_ret3
        refine ⟨by rw [H1.out]; rfl, below_drewG (Below.refl _ w) nq⟩
      have hz : ((d.toNat : Int) == (c.toNat : Int)) = false := by
        rw [beq_eq_false_iff_ne]; intro e; exact h1 (UInt8.toNat_inj.1 (by omega))
      have HP2 : Hid (∀ x ∈ s.data.toList.take (k + 1), x ≠ c) := Lib.hid (by
        intro x hx
        rw [take_snoc_get s k hlt, hdv, List.mem_append] at hx
        rcases hx with hx | hx
        · exact HP.out x hx
        · obtain rfl : x = d := by simpa using hx
          exact h1)
      clear h1
      go_wp2
      go_round
      case rel => exact ⟨k + 1, by go_num, by omega, HP2⟩
      case measure => simp [intOf]; omega
    · obtain rfl : k = s.size := by omega
      have H1 : Hid ((cutA c s.data.toList) = (s.data.toList, [], false)) := Lib.hid (by
        rw [hcut.out, List.drop_of_length_le (by rw [size_data]; exact Nat.le_refl _), List.take_of_length_le (by rw [size_data]; exact Nat.le_refl _)]
        simp [cutA])
      clear hcut
      go_wp2
      go_ret3
      exact ⟨by rw [H1.out]; rfl, Below.refl _ w⟩
end Go.Proofs.YtgalihmmlcnahaaDoor
