/-
  rdata.readGroups.
-/
import Derived.Test.YteppgeiejknhoaaMQ40
import Derived.Test.YteppgeiejknhoaaMQ39
import Derived.IntWalk
import Derived.Outline
namespace Go.Proofs.Yteppgeiejknhoaa
set_option maxRecDepth 20000
open Go.RowKit Go.Shelf

theorem groups_bad {p : List UInt8} {r : Nm} (h : p.length < 1 ∨ 4 < p.length ∨ p.all hexB = false) : groupsR (p :: r) = ([], 2) := by rw [groupsR, if_pos h]
theorem groups_ok {p : List UInt8} {r : Nm} (h : ¬ (p.length < 1 ∨ 4 < p.length ∨ p.all hexB = false)) : groupsR (p :: r) = join [UInt8.ofNat (groupV p / 256), UInt8.ofNat (groupV p % 256)] (groupsR r) := by
  rw [groupsR, if_neg h]; unfold join; rfl
theorem groups_nil (l : Nm) : groupsR l = join [] (groupsR l) := by
  unfold join
  induction l with
  | nil => rfl
  | cons p r _ =>
    by_cases h : p.length < 1 ∨ 4 < p.length ∨ p.all hexB = false
    · rw [groups_bad h]; rfl
    · rw [groups_ok h]
      unfold join
      by_cases h2 : (groupsR r).2 = 0
      · simp [h2]
      · simp [h2]
theorem groupV_snoc (l : List UInt8) (c : UInt8) : groupV (l ++ [c]) = 16 * groupV l + hexV c := by simp [groupV]
theorem groupV_lt (l : List UInt8) : groupV l < 16 ^ l.length := by
  have key : ∀ (l : List UInt8) (n : Nat), l.foldl (fun n c => 16 * n + hexV c) n < (n + 1) * 16 ^ l.length := by
    intro l
    induction l with
    | nil => intro n; simp
    | cons c r ih =>
      intro n
      have h1 := ih (16 * n + hexV c)
      have h2 := hexV_lt c
      have h3 : (16 * n + hexV c + 1) * 16 ^ r.length ≤ ((n + 1) * 16) * 16 ^ r.length := Nat.mul_le_mul_right _ (by omega)
      rw [List.foldl_cons, List.length_cons, Nat.pow_succ, Nat.mul_comm (16 ^ r.length) 16, ← Nat.mul_assoc]
      omega
  have := key l 0
  simpa [groupV] using this
theorem groupV_le4 {l : List UInt8} (h : l.length ≤ 4) : groupV l ≤ 65535 := by
  have h1 := groupV_lt l
  have h2 : 16 ^ l.length ≤ 16 ^ 4 := Nat.pow_le_pow_right (by decide) h
  have h3 : (16 : Nat) ^ 4 = 65536 := by decide
  omega
theorem i64_or_nat (a b : Nat) (ha : a < 9223372036854775808) (hb : b < 9223372036854775808) : bits .or .i64 (a : Int) (b : Int) = ((a ||| b : Nat) : Int) := by
  have hx : a ||| b < 2 ^ 63 := Nat.or_lt_two_pow (by omega) (by omega)
  have o : ∀ c : Nat, c < 9223372036854775808 → (BitVec.ofInt 64 (c : Int)).toNat = c := fun c hc => by
    rw [BitVec.ofInt_natCast, BitVec.toNat_ofNat]; exact Nat.mod_eq_of_lt (by omega)
  show IntKind.i64.wrap ((BitVec.ofInt 64 (a : Int) ||| BitVec.ofInt 64 (b : Int)).toNat : Int) = _
  rw [BitVec.toNat_or, o a ha, o b hb, IntKind.wrap_i64]
  omega
theorem or_nibble (g v : Nat) (hv : v < 16) (hg : g ≤ 4095) : bits .or .i64 ((g : Int) * 16) (v : Int) = ((16 * g + v : Nat) : Int) := by
  rw [show ((g : Int) * 16) = ((16 * g : Nat) : Int) by omega, i64_or_nat _ _ (by omega) (by omega)]
  congr 1
  exact (Nat.two_pow_add_eq_or_of_lt (i := 4) (by omega) g).symm

end Go.Proofs.Yteppgeiejknhoaa

