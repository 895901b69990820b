/-
  Decimals written: the document's Decimal.
-/
import Derived.Test.YtgalihmmlcnahaaDoorGnC
import Derived.Laws.Concat
namespace Go.Proofs.YtgalihmmlcnahaaDoor
open Go.RowKit Go.Shelf

def preD (n : Nat) : List UInt8 := if n < 10 then [] else Lib.decDigits (n / 10)
theorem dec_pre (n : Nat) : Lib.decDigits n = preD n ++ [UInt8.ofNat (48 + n % 10)] := by
  rw [Lib.decDigits]; unfold preD
  by_cases h : n < 10
  · rw [dif_pos h, if_pos h, Nat.mod_eq_of_lt h]; rfl
  · rw [dif_neg h, if_neg h]
theorem dec_len (u : Nat) (h : u < 10 ^ 19) : (Lib.decDigits u).length ≤ 19 := by
  rw [Lib.decDigits_length]
  have : ∀ k u, u < 10 ^ k → Lib.nDigits u ≤ max k 1 := by
    intro k
    induction k with
    | zero => intro u h; rw [Lib.nDigits_small (by simp at h; omega)]; omega
    | succ k ih =>
      intro u h
      rw [Lib.nDigits]
      by_cases h10 : u < 10
      · rw [dif_pos h10]; omega
      · rw [dif_neg h10]
        have := ih (u / 10) (by rw [Nat.pow_succ] at h; omega)
        rcases k with _ | k
        · simp at h; omega
        · omega
  have := this 19 u h
  omega

theorem one_byte (W : World) (x : Int) (c : UInt8) (h : x = (c.toNat : Int)) :
    (convert 57 9 (.slice (some ⟨W.heap.size, 0, none⟩) 1 1)).run Tryd.prog (W.alloc (.cells #[.int .u8 x] 5)) = .ok (.string ⟨#[c]⟩) (W.alloc (.cells #[.int .u8 x] 5)) := by
  subst h
  refine run_convert_bytes_back _ _ _ _ _ 1 [c] Tryd.underlying57 Tryd.underlying5 Tryd.underlying9 ?_
  intro j hj
  refine cells_new W [.int .u8 (c.toNat : Int)] 5 j _ ?_
  obtain rfl : j = 0 := by simp at hj; exact hj
  rfl
theorem digit_int (n : Nat) : (48 : Int) + (n : Int) % 10 = ((UInt8.ofNat (48 + n % 10)).toNat : Int) := by
  have : (UInt8.ofNat (48 + n % 10)).toNat = 48 + n % 10 := by simp; omega
  rw [this]; omega

set_option maxHeartbeats 4000000 in
theorem ref_Decimal (u : Nat) (w : World) (hu : u ≤ 4611686018427387904) :
    Calls Tryd.prog 11 #[.int .i64 (u : Int)] w fun e w' => e = .returned (.string ⟨(Lib.decDigits u).toArray⟩) ∧ Below w.heap.size w w' := by
  have h0 : (0 : Int) ≤ (u : Int) := by omega
  have hui : (u : Int) ≤ 4611686018427387904 := by omega
  have hne : ((u : Int) == -9223372036854775808) = false := by simp only [beq_eq_false_iff_ne, ne_eq]; omega
  have hb1 := fun W => one_byte W _ _ (digit_int u)
  have hd0 := Lib.hid (dec_pre u)
  have hdl := dec_len u (by omega)
  generalize UInt8.ofNat (48 + u % 10) = c0 at *
  go_enter Tryd.func11, Tryd.ntmps11
  go_wp2
  go_loopw [0, 3] (fun a t wr => ∃ (n : Nat) (l : List UInt8), a = .int .i64 (n : Int) ∧ t = .string ⟨l.toArray⟩ ∧ n ≤ u ∧ l.length ≤ 19 ∧ Hid (Lib.decDigits u = preD n ++ l) ∧ Below w.heap.size w wr) (fun a _ _ => (intOf a).toNat)
  case atStart => exact ⟨u, [c0], rfl, rfl, Nat.le_refl _, by simp, hd0, (Below.refl _ _).alloc (Nat.le_refl _) _⟩
  case round =>
    obtain ⟨n, l, rfl, rfl, hn, hl, HD, hB⟩ := hrel
    have hn0 : (0 : Int) ≤ (n : Int) := by omega
    by_cases h10 : 10 ≤ (n : Int)
    · have hpre : preD n = preD (n / 10) ++ [UInt8.ofNat (48 + n / 10 % 10)] := by
        rw [← dec_pre]; unfold preD; rw [if_neg (by omega)]
      have HD2 : Hid (Lib.decDigits u = preD (n / 10) ++ (UInt8.ofNat (48 + n / 10 % 10) :: l)) := Lib.hid (by rw [HD.out, hpre]; simp)
      have hlen2 : l.length + 1 ≤ 19 := by
        have h1 : (Lib.decDigits u).length ≤ 19 := hdl
        rw [HD2.out] at h1; simp at h1; omega
      have hdi := digit_int (n / 10)
      rw [show ((n / 10 : Nat) : Int) = (n : Int) / 10 by omega] at hdi
      have hb2 := fun W => one_byte W _ _ hdi
      generalize UInt8.ofNat (48 + n / 10 % 10) = c at *
      have a1 := fun W => run_string_add_sum (P := Tryd.prog) W ⟨#[c]⟩ ⟨l.toArray⟩ (by rw [mk_size l]; show 1 + l.length ≤ _; omega)
      have e1 : (⟨#[c]⟩ : ByteArray) ++ ⟨l.toArray⟩ = ⟨(c :: l).toArray⟩ := mk_append [c] l
      rw [e1] at a1
      have hBa := fun o => hB.alloc hB.size o
      clear e1 hpre hdi hb1 HD hdl
      go_wp2
      go_roundw
      case rel => exact ⟨n / 10, c :: l, congrArg (Value.int .i64) (by omega), rfl, by omega, by simp; omega, HD2, hBa _⟩
      case measure => simp [intOf]; omega
    · have HD2 : Hid (Lib.decDigits u = l) := Lib.hid (by rw [HD.out]; unfold preD; rw [if_pos (by omega)]; rfl)
      clear hb1 HD
      go_wp2
      go_ret
      exact ⟨by rw [HD2.out]; rfl, hB⟩
end Go.Proofs.YtgalihmmlcnahaaDoor
