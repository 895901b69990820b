/-
  Contracts of package label's small functions: Check, digit, small, appendOctet, octets. They only compute, or append to a slice of the caller's own.
-/
import Derived.Test.YtckammgnmgkieaaGreatMQ11
namespace Go.Proofs.YtckammgnmgkieaaGreat
set_option maxRecDepth 20000
open Go.RowKit Go.Shelf

def checkLabelM (l : List UInt8) : Int := if l = [] then 8 else if 63 < l.length then 3 else 0

def smallU (c : UInt8) : UInt8 := if 65 ≤ c.toNat ∧ c.toNat ≤ 90 then c + 32 else c

theorem smallU_hi (c : UInt8) (h1 : 65 ≤ (c.toNat : Int)) (h2 : (c.toNat : Int) ≤ 90) : (c.toNat : Int) + 97 - 65 = ((smallU c).toNat : Int) := by
  unfold smallU; rw [if_pos ⟨by omega, by omega⟩, UInt8.toNat_add]; simp; omega
theorem smallU_lo (c : UInt8) (h : ¬ (65 ≤ (c.toNat : Int) ∧ (c.toNat : Int) ≤ 90)) : (c.toNat : Int) = ((smallU c).toNat : Int) := by
  unfold smallU; rw [if_neg (by omega)]

set_option maxHeartbeats 400000 in
theorem label_small (c : UInt8) (w : World) :
    Calls Tryz.prog 145 #[.int .u8 (c.toNat : Int)] w fun e w' => e = .returned (.int .u8 ((smallU c).toNat : Int)) ∧ w = w' := by
  have h1 : (c.toNat : Int) ≤ 255 := by have := c.toNat_lt; omega
  by_cases h : (65 : Int) ≤ (c.toNat : Int) ∧ (c.toNat : Int) ≤ 90
  · have ha := smallU_hi c h.1 h.2
    have H := Lib.hid ha; clear ha
    obtain ⟨h2, h3⟩ := h
    go_enter Tryz.func145, Tryz.ntmps145
    go_wp2
    go_ret
    exact ⟨ret_int H.out, rfl⟩
  · have ha := smallU_lo c h
    have H := Lib.hid ha; clear ha
    by_cases h2 : (65 : Int) ≤ (c.toNat : Int)
    all_goals
      go_enter Tryz.func145, Tryz.ntmps145
      go_wp2
      try (exfalso; omega)
      try (go_ret; exact ⟨ret_int H.out, rfl⟩)


section
attribute [local go_sem] Oper.semAt_some

end

end Go.Proofs.YtckammgnmgkieaaGreat

