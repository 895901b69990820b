/-
  The laws of trees: the values put in turn; a name put again.
-/
import Derived.Test.YtnpnfajgphpabaaMQ07
import Derived.Test.YtnpnfajgphpabaaMQ43
import Derived.Test.YtnpnfajgphpabaaMQ37
namespace Go.Proofs.Ytnpnfajgphpabaa
set_option linter.unusedVariables false
set_option linter.unusedSimpArgs false
open Go.RowKit Go.Shelf Go.Maps Go.WideMaps
set_option maxRecDepth 20000
theorem below_drewT {n : Nat} {a w : World} (h : Below n a w) : Below n a w.drew := h.trans ⟨rfl, rfl, rfl, Nat.le_refl _, fun _ _ => rfl⟩
theorem addP_in {ks : List Nm} {p : Nm} (h : TreeOK ks) (hp : p ∈ ks) : ∀ k, addP ks p k = ks := by
  intro k
  induction k with
  | zero => rfl
  | succ k ih =>
    have ht := h.take hp (k + 1)
    rw [addP, ih]
    simp [ht]
theorem addK_in {ks : List Nm} {p : Nm} (h : TreeOK ks) (hp : p ∈ ks) : addK ks p = ks := addP_in h hp _
theorem updT_again (f : Nm → Option Value) (p : Nm) (v : Value) : updT (updT f p v) p v = updT f p v := by
  funext q; unfold updT; split <;> rfl
/-- The values behind k puts. -/
def vlN (l : List Nm) (vv : Nat → Value) : Nat → Nm → Option Value
  | 0 => fun _ => none
  | k + 1 => updT (vlN l vv k) (wayN (l.getD k [])) (vv k)
theorem vlN_zero (l : List Nm) (vv : Nat → Value) : vlN l vv 0 = fun _ => none := rfl
theorem vlN_succ {l : List Nm} {vv : Nat → Value} {k : Nat} (h : k < l.length) : vlN l vv (k + 1) = updT (vlN l vv k) (wayN l[k]) (vv k) := by
  rw [vlN, List.getD_eq_getElem?_getD, List.getElem?_eq_getElem h]; rfl
theorem vlN_yes {l : List Nm} {vv : Nat → Value} {k : Nat} {q : Nm} (h : k < l.length) (hs : wayN l[k] = q) : vlN l vv (k + 1) q = some (vv k) := by
  rw [vlN_succ h]; unfold updT; rw [if_pos hs.symm]
theorem vlN_no {l : List Nm} {vv : Nat → Value} {k : Nat} {q : Nm} (h : k < l.length) (hs : wayN l[k] ≠ q) : vlN l vv (k + 1) q = vlN l vv k q := by
  rw [vlN_succ h]; unfold updT; rw [if_neg (fun e => hs e.symm)]
theorem vlN_mem {l : List Nm} {vv : Nat → Value} : ∀ (k : Nat), k ≤ l.length → ∀ {q : Nm} {v : Value}, vlN l vv k q = some v → ∃ j, j < k ∧ v = vv j := by
  intro k
  induction k with
  | zero => intro _ q v h; cases h
  | succ k ih =>
    intro hk q v h
    rw [vlN_succ (by omega)] at h
    unfold updT at h
    split at h
    · exact ⟨k, by omega, by injection h with h; exact h.symm⟩
    · obtain ⟨j, h1, h2⟩ := ih (by omega) h
      exact ⟨j, by omega, h2⟩
theorem way_same {a b : Nm} (h : sameN a b = true) : wayN a = wayN b := wayN_eq.2 h
theorem way_diff {a b : Nm} (h : sameN a b = false) : wayN a ≠ wayN b := fun e => by have := wayN_eq.1 e; rw [h] at this; cases this
/-- A name put again changes nothing that the laws speak of. -/
theorem TLp.put_again {TT NT : TypeId} {z : Value} {w : World} {B : Nat} {ks : List Nm} {f : Nm → Option Value} {p : Nm} {v : Value} {W : World} (hk : TreeOK ks) (hf : foldN p = p) (h : TLp TT NT z w B (addK (addK ks p) p) (updT (updT f p v) p v) W) : TLp TT NT z w B (addK ks p) (updT f p v) W := by
  have hok : TreeOK (addK ks p) := addP_ok hk hf _ (Nat.le_refl _)
  rw [addK_in hok ((mem_addK hk.root).2 (.inr (List.prefix_refl _))), updT_again] at h
  exact h
/-- The s-th text of an argument. -/
theorem StrsArg.at {W : World} {a0 : Option Addr} {m c0 : Nat} {xs : List (List UInt8)} (h : StrsArg W (.slice a0 m c0) xs) {j : Nat} (hj : j < xs.length) : ∃ g off : Nat, a0 = some ⟨g, off, none⟩ ∧ m = xs.length ∧ g < W.heap.size ∧ W.cell? ⟨g, off + j, none⟩ = some (strV xs[j]) ∧ (xs[j]).length ≤ 9223372036854775807 := by
  obtain ⟨⟨a, c, e, hx⟩, h1, h2⟩ := h
  injection e with e1 e2 e3
  subst e1
  rcases hx with hx | ⟨b, off, rfl, hb, hc⟩
  · subst hx; simp at hj
  · exact ⟨b, off, rfl, e2, hb, hc j hj, by have := h2 _ (List.getElem_mem hj); unfold maxLen at this; omega⟩
end Go.Proofs.Ytnpnfajgphpabaa

