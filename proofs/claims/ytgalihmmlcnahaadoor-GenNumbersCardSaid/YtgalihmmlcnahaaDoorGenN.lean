/-
  A range in words is read as its numbers.
-/
import Derived.Test.YtgalihmmlcnahaaDoorGenK
namespace Go.Proofs.YtgalihmmlcnahaaDoor
open Go.RowKit Go.Shelf Go.Sort
set_option maxRecDepth 20000
set_option linter.unusedVariables false

theorem cutA_at {c : UInt8} : ∀ (a b : List UInt8), (∀ x ∈ a, x ≠ c) → cutA c (a ++ c :: b) = (a, b, true) := by
  intro a b
  induction a with
  | nil => intro _; simp [cutA]
  | cons d a ih =>
    intro h
    rw [List.cons_append, cutA, if_neg (h d (by simp)), ih (fun x hx => h x (List.mem_cons_of_mem _ hx))]
theorem dec_no (u : Nat) (c : UInt8) (hc : digitU c = false) : ∀ x ∈ Lib.decDigits u, x ≠ c := by
  intro x hx e
  subst e
  have h := (dec_facts u).1
  unfold allDigits at h
  rw [List.all_eq_true] at h
  rw [h x hx] at hc
  cases hc
/-- The words of a range. -/
def rangeL (f t d : Nat) : List UInt8 := Lib.decDigits f ++ [45] ++ Lib.decDigits t ++ [47] ++ Lib.decDigits d
theorem parseR_range (f t d : Nat) (h1 : f ≤ t) (h2 : t ≤ gM) (h3 : 0 < d) (h4 : d ≤ gM) : parseR (rangeL f t d) = ((f, t, d), 0) := by
  have e1 : cutA 47 (rangeL f t d) = (Lib.decDigits f ++ [45] ++ Lib.decDigits t, Lib.decDigits d, true) := by
    have h : rangeL f t d = (Lib.decDigits f ++ [45] ++ Lib.decDigits t) ++ 47 :: Lib.decDigits d := by simp [rangeL]
    rw [h]
    apply cutA_at
    intro x hx
    rw [List.mem_append, List.mem_append] at hx
    rcases hx with (hx | hx) | hx
    · exact dec_no f 47 (by decide) x hx
    · obtain rfl : x = 45 := by simpa using hx
      decide
    · exact dec_no t 47 (by decide) x hx
  have e2 : cutA 45 (Lib.decDigits f ++ [45] ++ Lib.decDigits t) = (Lib.decDigits f, Lib.decDigits t, true) := by
    have h : Lib.decDigits f ++ [45] ++ Lib.decDigits t = Lib.decDigits f ++ 45 :: Lib.decDigits t := by simp
    rw [h]
    exact cutA_at _ _ (dec_no f 45 (by decide))
  unfold parseR fromL toL stepL
  rw [e1]
  simp only [if_true]
  rw [e2]
  simp only
  rw [numM_dec f gM (by omega), numM_dec t gM h2, numM_dec d gM h4]
  unfold parse3
  rw [if_neg (by simp), if_neg (by simp), if_neg (by simp; omega)]
/-- The numbers of such a range. -/
theorem numsM_range (f k d r : Nat) (hk0 : 0 < k) (hk : k ≤ 4096) (hd : 0 < d) (hr : r < d) (h2 : f + (k - 1) * d + r ≤ 2147483647) :
    numsM (f : Int) ((f + (k - 1) * d + r : Nat) : Int) (d : Int) = ((List.range k).map (fun i => f + i * d), 0) := by
  have hq : (f + (k - 1) * d + r - f) / d = k - 1 := by
    rw [show f + (k - 1) * d + r - f = (k - 1) * d + r from by omega, Nat.mul_comm, Nat.mul_add_div hd, Nat.div_eq_of_lt hr]
    omega
  unfold numsM
  rw [if_neg (by omega)]
  simp only [Int.toNat_natCast]
  rw [hq, if_neg (by omega), show k - 1 + 1 = k from by omega]
theorem gen_ParseRange (f t d : Nat) (h1 : f ≤ t) (h2 : t ≤ gM) (h3 : 0 < d) (h4 : d ≤ gM) (s : ByteArray) (hs : s.data.toList = rangeL f t d) (hz : s.size ≤ 1000000) (w : World) (hw : TG w) :
    Calls Tryd.prog 7 #[.string s] w fun e w' => e = .returned (.tuple #[.agg #[.int .i64 (f : Int), .int .i64 (t : Int), .int .i64 (d : Int)], .int .i64 0]) ∧ Below w.heap.size w w' := by
  have h := gen_Parse s w hz hw.1
  rw [hs, parseR_range f t d h1 h2 h3 h4] at h
  exact h
end Go.Proofs.YtgalihmmlcnahaaDoor
