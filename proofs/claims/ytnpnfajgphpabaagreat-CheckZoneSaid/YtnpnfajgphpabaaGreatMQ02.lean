import Derived.Deep.RegionHeld3
import Derived.Deep.AppendLies
import Derived.Outline
import Derived.IntWalk
import Derived.Test.YtnpnfajgphpabaaGreatMQ35
import Derived.Test.YtnpnfajgphpabaaGreatMQ29
namespace Go.Proofs.YtnpnfajgphpabaaGreat
set_option maxRecDepth 20000
open Go.RowKit Go.Shelf
theorem WdsAt.drop {W : World} {g off n c : Nat} {l : List Wd} (h : WdsAt W (.slice (some ⟨g, off, none⟩) n c) l) (hn : l.length = n) (h1 : 1 ≤ n) :
 WdsAt W (.slice (if c = 1 then some ⟨g, off, none⟩ else some ⟨g, off + 2, none⟩) (n - 1) (c - 1)) (l.drop 1) := by
 obtain ⟨a, c', e, h2, h3, h⟩ := h
 rw [Value.slice.injEq] at e
 obtain ⟨rfl, _, rfl⟩ := e
 refine ⟨_, _, by rw [List.length_drop, hn], by rw [List.length_drop, hn]; omega, ?_, ?_⟩
 ·intro h; split at h <;> cases h
 ·rcases h with h | ⟨b, o, e, hb, hcell⟩
  ·subst h; simp at hn; omega
  ·rw [Option.some.injEq] at e
   cases e
   by_cases h4 : c = 1
   ·left; exact List.eq_nil_of_length_eq_zero (by rw [List.length_drop]; omega)
   ·right
    rw [if_neg h4]
    refine ⟨g, off + 2, rfl, hb, fun j hj => ?_⟩
    have hj' : j + 1 < l.length := by rw [List.length_drop] at hj; omega
    have := hcell (j + 1) hj'
    rw [show off + (j + 1) * 2 = off + 2 + j * 2 by omega] at this
    rw [List.getElem_drop]
    simp only [Nat.add_comm 1 j]
    exact this
theorem WdsOK.drop {l : List Wd} (h : WdsOK l) (k : Nat) : WdsOK (l.drop k) := ⟨by have := h.1; rw [List.length_drop]; omega, fun x hx => h.2 x (List.mem_of_mem_drop hx)⟩
end Go.Proofs.YtnpnfajgphpabaaGreat
