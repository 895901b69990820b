import Derived.Test.YtckammgnmgkieaaGreatMQ28
import Derived.Test.YtckammgnmgkieaaGreatMQ33
namespace Go.Proofs.YtckammgnmgkieaaGreat
set_option maxRecDepth 20000
open Go.RowKit Go.Shelf
theorem NmAt.alloc {W : World} {v : Value} {xs : Nm} (h : NmAt W v xs) (o : Obj) : NmAt (W.alloc o) v xs := h.below ((qL0).alloc (qN0) _)
def NmRes (xs : Nm) (k : Nat) (w : World) (e : Ending) (w' : World) : Prop := ∃ a c, e = .returned (.slice a k c) ∧ NmAt w' (.slice a k c) xs ∧ Below w.heap.size w w'
theorem qh5 {xs : Nm} {k : Nat} {w w' : World} {v : Value} (hk : xs.length = k) (ho : OwnG 9 strV w' w.heap.size v xs) (hb : Below w.heap.size w w') : NmRes xs k w (.returned v) w' := by
 subst hk
 obtain ⟨a, c, rfl⟩ := ho.shape
 exact ⟨a, c, rfl, ho.nmAt, hb⟩
theorem qmy (v : Value) (n : Nm) (t : List UInt8) (h : textN n = t) (w : World) (hA : NmAt w v n) (h1 : NmOK n) :
 Calls Tryz.prog 139 #[v] w fun e w' => e = .returned (.string ⟨t.toArray⟩) ∧ Below w.heap.size w w' := by
 subst h; exact qk5 v n w hA.1 h1
theorem qd6 (v u : Value) (n z : Nm) (r : Bool) (h : underN n z = r) (w : World) (hA : NmAt w v n) (hU : NmAt w u z) (h1 : NmOK n) (h2 : NmOK z) :
 Calls Tryz.prog 56 #[v, u] w fun e w' => e = .returned (.bool r) ∧ Below w.heap.size w w' := by
 subst h; exact qfm v u n z w hA.1 hU.1 h1 h2
theorem qbL (v u : Value) (n z : Nm) (r : Bool) (h : sameN n z = r) (w : World) (hA : NmAt w v n) (hU : NmAt w u z) (h1 : NmOK n) (h2 : NmOK z) :
 Calls Tryz.prog 57 #[v, u] w fun e w' => e = .returned (.bool r) ∧ Below w.heap.size w w' := by
 subst h; exact qkB v u n z w hA.1 hU.1 h1 h2
theorem qiS (v u : Value) (n z : Nm) (r : Int) (h : qai n z = r) (w : World) (hA : NmAt w v n) (hU : NmAt w u z) (h1 : NmOK n) (h2 : NmOK z) :
 Calls Tryz.prog 129 #[v, u] w fun e w' => e = .returned (.int .i64 r) ∧ Below w.heap.size w w' := by
 subst h; exact qd9 v u n z w hA.1 hU.1 h1 h2
theorem qk9 (s : ByteArray) (v : Value) (n l : Nm) (k : Nat) (h : s.data.toList :: n = l) (hk : l.length = k) (w : World) (hA : NmAt w v n) (h1 : NmOK n) :
 Calls Tryz.prog 75 #[.string s, v] w (NmRes l k w) := by
 subst h; refine (qj2 s v n w hA.1 hA.2 h1).mono ?_
 rintro e w' ⟨v', rfl, ho, hb⟩; exact qh5 hk ho hb
def KeepP (b b2 : Nat) (v u : Value) (W W' : World) : Prop := KeepN b v W W' ∧ KeepN b2 u W W'
theorem KeepP.refl (b b2 : Nat) (v u : Value) (W : World) : KeepP b b2 v u W W := ⟨KeepN.refl _ _ _, KeepN.refl _ _ _⟩
theorem KeepP.trans {b b2 : Nat} {v u : Value} {A B C : World} (h : KeepP b b2 v u A B) (k : KeepP b b2 v u B C) : KeepP b b2 v u A C := ⟨h.1.trans k.1, h.2.trans k.2⟩
theorem KeepP.drewN {b b2 : Nat} {v u : Value} (W : World) (n : Nat) : KeepP b b2 v u W (W.drewN n) := ⟨KeepN.drewN _ _, KeepN.drewN _ _⟩
def pairV (xs ys : List Value) (j : Fin (min xs.length ys.length)) : Array Value := #[xs[j.val]'(by have := j.isLt; omega), ys[j.val]'(by have := j.isLt; omega)]
def FirstC (cs : Nat → Int) (n m : Nat) (r : Int) : Prop := (∃ k, k < n ∧ k < m ∧ (∀ j, j < k → cs j = 0) ∧ cs k ≠ 0 ∧ r = cs k) ∨ ((∀ j, j < n → j < m → cs j = 0) ∧ r = cmpI n m)
theorem qci {α : Type} {f : α → α → Int} {a b : List α} {cs : Nat → Int} {r : Int} (hc : ∀ j (h1 : j < a.length) (h2 : j < b.length), cs j = f a[j] b[j]) (h : FirstC cs a.length b.length r) : r = cmpL f a b := by
 have key : ∀ k, k ≤ a.length → k ≤ b.length → (∀ j, j < k → cs j = 0) → cmpL f a b = cmpL f (a.drop k) (b.drop k) := by
  intro k
  induction k with
  | zero => intro _ _ _; rfl
  | succ k ih =>
   intro h1 h2 h3
   rw [ih (by omega) (by omega) (fun j hj => h3 j (by omega)), qcp k (by omega) (by omega), if_pos]
   rw [← hc k (by omega) (by omega)]; exact h3 k (by omega)
 rcases h with ⟨k, h1, h2, h3, h4, rfl⟩ | ⟨h1, rfl⟩
 ·rw [key k (by omega) (by omega) h3, qcp k h1 h2, if_neg (by rw [← hc k h1 h2]; exact h4), hc k h1 h2]
 ·rcases Nat.le_total a.length b.length with h | h
  ·rw [key a.length (qN0) h (fun j hj => h1 j hj (by omega)), qbx _ (qN0) h (.inl rfl)]
  ·rw [key b.length h (qN0) (fun j hj => h1 j (by omega) hj), qbx _ h (qN0) (.inr rfl)]
theorem qeL {m : Nat} {p : List (Fin m)} {x : Fin m} (h : p ++ [x] <+: List.finRange m) : ∀ j (hj : j < x.val), (⟨j, by have := x.isLt; omega⟩ : Fin m) ∈ p := by
 have hl : p.length + 1 ≤ m := by have := h.length_le; simpa using this
 have e := List.prefix_iff_eq_take.1 h
 rw [List.length_append, List.length_singleton, qak (by omega)] at e
 obtain ⟨e1, e2⟩ := List.append_inj' e rfl
 have e2 : x = ⟨p.length, by omega⟩ := by simpa using e2
 intro j hj
 rw [e2] at hj
 have hj' : j < p.length := hj
 rw [e1]
 refine List.mem_iff_getElem.2 ⟨j, by rw [List.length_take, List.length_finRange]; omega, by simp⟩
def lastC {m : Nat} (cs : Nat → Int) (pre : List (Fin m)) : Int := cs ((pre.getLast?.map Fin.val).getD 0)
theorem qba {m : Nat} (cs : Nat → Int) (p : List (Fin m)) (x : Fin m) : lastC cs (p ++ [x]) = cs x.val := by simp [lastC]
theorem qeG {b b2 : Nat} {v u : Value} {A B C : World} (h : KeepP b b2 v u A B) (k : KeepP b b2 v u B C) : KeepP b b2 v u A C := h.trans k
theorem SlAt.row_lt {W : World} {v : Value} {xs : List Value} (h : SlAt W v xs) : ∀ g, rowOf v = some g → g < W.heap.size := by
 obtain ⟨a, c, rfl, _, _, hx⟩ := h
 intro g hg
 rcases hx with e | ⟨b, off, rfl, hb, _⟩
 ·subst e; cases a <;> cases hg
 ·cases xs with
  | nil => cases hg
  | cons x r => cases hg; exact hb
end Go.Proofs.YtckammgnmgkieaaGreat
