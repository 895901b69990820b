/-
  Contract of name.readLabels.
-/
import Derived.Test.YtfcdajldpnomfaaMQ20
import Derived.Test.YtfcdajldpnomfaaMQ43
import Derived.Test.YtfcdajldpnomfaaMQ30
import Derived.Test.YtfcdajldpnomfaaMQ27
import Derived.Test.YtfcdajldpnomfaaMQ33
namespace Go.Proofs.Ytfcdajldpnomfaa
set_option maxRecDepth 20000
open Go.RowKit Go.Shelf

def ReadNPost (ps : Nm) (w : World) (e : Ending) (w' : World) : Prop := ∃ v', e = .returned (.tuple #[v', .int .i64 (readN ps).2]) ∧ OwnG 9 strV w' w.heap.size v' (readN ps).1 ∧ Below w.heap.size w w'
theorem readN_fin {ps : Nm} {w w' : World} {e : Ending} {v : Value} (l : Nm) (er : Int) (h : readN ps = (l, er)) (he : e = .returned (.tuple #[v, .int .i64 er])) (ho : OwnG 9 strV w' w.heap.size v l) (hw : Below w.heap.size w w') : ReadNPost ps w e w' := by
  unfold ReadNPost; rw [h]; exact ⟨v, he, ho, hw⟩

end Go.Proofs.Ytfcdajldpnomfaa

/-
  Contract of name.Parse.
-/
namespace Go.Proofs.Ytfcdajldpnomfaa
set_option maxRecDepth 20000
open Go.RowKit Go.Shelf

theorem splitM_ne {s : List UInt8} (h : (splitM s).2 = 0) : (splitM s).1 ≠ [] := by
  unfold splitM at h ⊢
  by_cases e : (spRun s).taken = true
  · rw [if_pos e] at h; cases h
  · rw [if_neg e]; simp
theorem splitM_len (s : List UInt8) : (splitM s).1.length ≤ s.length + 1 ∧ ∀ x ∈ (splitM s).1, x.length ≤ s.length := by
  unfold splitM
  by_cases e : (spRun s).taken = true
  · rw [if_pos e]; simp
  · rw [if_neg e]
    have h := (spRun_inv s).2.2
    refine ⟨by simp; omega, ?_⟩
    intro x hx
    simp only [List.mem_append, List.mem_map, List.mem_singleton] at hx
    rcases hx with ⟨p, _, rfl⟩ | rfl
    · unfold piece; simp; omega
    · simp
theorem parseM_len (l : List UInt8) : (parseM l).1.length ≤ l.length := by
  have h : (scan l).1.length ≤ l.length := scanM_len _ l (Nat.le_refl _)
  unfold parseM
  split
  · split
    · exact h
    · simp
  · simp
theorem readN_len {B : Nat} : ∀ (ps : Nm), (∀ p ∈ ps, p.length ≤ B) → (readN ps).1.length ≤ ps.length ∧ ∀ x ∈ (readN ps).1, x.length ≤ B
  | [] => by intro _; simp [readN]
  | p :: r => by
    intro h
    obtain ⟨i1, i2⟩ := readN_len r (fun x hx => h x (by simp [hx]))
    have hp := h p (by simp)
    have hl := parseM_len p
    simp only [readN]
    split
    · split
      · refine ⟨by simpa using i1, ?_⟩
        intro x hx
        rcases List.mem_cons.1 hx with rfl | hx
        · omega
        · exact i2 x hx
      · simp
    · simp
theorem wholeN_eq {ps : Nm} {n : Nat} (hn : ps.length = n + 1) : wholeN ps = decide (ps[n]'(by omega) = []) := by
  unfold wholeN
  rw [List.getLast?_eq_getElem?, show ps.length - 1 = n by omega, List.getElem?_eq_getElem (by omega)]
  simp

def ParseNPost (s : ByteArray) (o : Nm) (w : World) (e : Ending) (w' : World) : Prop := ∃ v', e = .returned (.tuple #[v', .int .i64 (parseN s.data.toList o).2]) ∧ OwnG 9 strV w' w.heap.size v' (parseN s.data.toList o).1 ∧ Below w.heap.size w w'
theorem parseN_fin {s : ByteArray} {o : Nm} {w w' : World} {e : Ending} {v : Value} (l : Nm) (er : Int) (h : parseN s.data.toList o = (l, er)) (he : e = .returned (.tuple #[v, .int .i64 er])) (ho : OwnG 9 strV w' w.heap.size v l) (hw : Below w.heap.size w w') : ParseNPost s o w e w' := by
  unfold ParseNPost; rw [h]; exact ⟨v, he, ho, hw⟩

end Go.Proofs.Ytfcdajldpnomfaa

/-
  Package name's contracts in one spelling, for laws: arguments that read as names, answers named by equations.
-/
namespace Go.Proofs.Ytfcdajldpnomfaa
set_option maxRecDepth 20000
open Go.RowKit Go.Shelf

theorem NmAt.alloc {W : World} {v : Value} {xs : Nm} (h : NmAt W v xs) (o : Obj) : NmAt (W.alloc o) v xs := h.below ((Below.refl _ _).alloc (Nat.le_refl _) _)

theorem nm_lit (W : World) (ys : Nm) (cs : List Value) (k g : Nat) (hc : cs = ys.map strV) (hk : ys.length = k) (hm : k ≤ 1048576) (hg : W.heap.size = g) :
    NmAt (W.alloc (.cells cs.toArray 9)) (.slice (some ⟨g, 0, none⟩) k k) ys := by
  subst hc hk hg
  exact (OwnG.lit (T := 9) (enc := strV) W W.heap.size (Nat.le_refl _) ys (by unfold maxLen; omega)).nmAt
theorem nmOK_of {xs : Nm} (h : fewN xs = true) : NmOK xs := fewN_ok h

def NmRes (xs : Nm) (k : Nat) (w : World) (e : Ending) (w' : World) : Prop := ∃ a c, e = .returned (.slice a k c) ∧ NmAt w' (.slice a k c) xs ∧ Below w.heap.size w w'
def NmRes2 (xs : Nm) (k : Nat) (er : Int) (w : World) (e : Ending) (w' : World) : Prop := ∃ a c, e = .returned (.tuple #[.slice a k c, .int .i64 er]) ∧ NmAt w' (.slice a k c) xs ∧ Below w.heap.size w w'
theorem nmRes_of {xs : Nm} {k : Nat} {w w' : World} {v : Value} (hk : xs.length = k) (ho : OwnG 9 strV w' w.heap.size v xs) (hb : Below w.heap.size w w') : NmRes xs k w (.returned v) w' := by
  subst hk
  obtain ⟨a, c, rfl⟩ := ho.shape
  exact ⟨a, c, rfl, ho.nmAt, hb⟩
theorem nmRes2_of {xs : Nm} {k : Nat} {er : Int} {w w' : World} {v : Value} (hk : xs.length = k) (ho : OwnG 9 strV w' w.heap.size v xs) (hb : Below w.heap.size w w') : NmRes2 xs k er w (.returned (.tuple #[v, .int .i64 er])) w' := by
  subst hk
  obtain ⟨a, c, rfl⟩ := ho.shape
  exact ⟨a, c, rfl, ho.nmAt, hb⟩

theorem kn_NSame (v u : Value) (n z : Nm) (r : Bool) (h : sameN n z = r) (w : World) (hA : NmAt w v n) (hU : NmAt w u z) (h1 : NmOK n) (h2 : NmOK z) :
    Calls Try.prog 16 #[v, u] w fun e w' => e = .returned (.bool r) ∧ Below w.heap.size w w' := by
  subst h; exact name_Same v u n z w hA.1 hU.1 h1 h2
theorem kn_NCompare (v u : Value) (n z : Nm) (r : Int) (h : compareN n z = r) (w : World) (hA : NmAt w v n) (hU : NmAt w u z) (h1 : NmOK n) (h2 : NmOK z) :
    Calls Try.prog 43 #[v, u] w fun e w' => e = .returned (.int .i64 r) ∧ Below w.heap.size w w' := by
  subst h; exact name_Compare v u n z w hA.1 hU.1 h1 h2
end Go.Proofs.Ytfcdajldpnomfaa

/-
  rdata.pairs and its iterator, at the four element types. (Written by wip/tools/gen4.py.)
-/
namespace Go.Proofs.Ytfcdajldpnomfaa
set_option maxRecDepth 20000
open Go.RowKit Go.Shelf

/-- What a round over pairs must keep. -/
def KeepP (b b2 : Nat) (v u : Value) (W W' : World) : Prop := KeepN b v W W' ∧ KeepN b2 u W W'
theorem KeepP.refl (b b2 : Nat) (v u : Value) (W : World) : KeepP b b2 v u W W := ⟨KeepN.refl _ _ _, KeepN.refl _ _ _⟩
theorem KeepP.trans {b b2 : Nat} {v u : Value} {A B C : World} (h : KeepP b b2 v u A B) (k : KeepP b b2 v u B C) : KeepP b b2 v u A C := ⟨h.1.trans k.1, h.2.trans k.2⟩
theorem KeepP.drewN {b b2 : Nat} {v u : Value} (W : World) (n : Nat) : KeepP b b2 v u W (W.drewN n) := ⟨KeepN.drewN _ _, KeepN.drewN _ _⟩
def pairV (xs ys : List Value) (j : Fin (min xs.length ys.length)) : Array Value := #[xs[j.val]'(by have := j.isLt; omega), ys[j.val]'(by have := j.isLt; omega)]

/-- The first of the answers that isn't 0, else what the lengths tell. -/
def FirstC (cs : Nat → Int) (n m : Nat) (r : Int) : Prop := (∃ k, k < n ∧ k < m ∧ (∀ j, j < k → cs j = 0) ∧ cs k ≠ 0 ∧ r = cs k) ∨ ((∀ j, j < n → j < m → cs j = 0) ∧ r = cmpI n m)
theorem firstC_cmpL {α : Type} {f : α → α → Int} {a b : List α} {cs : Nat → Int} {r : Int} (hc : ∀ j (h1 : j < a.length) (h2 : j < b.length), cs j = f a[j] b[j]) (h : FirstC cs a.length b.length r) : r = cmpL f a b := by
  have key : ∀ k, k ≤ a.length → k ≤ b.length → (∀ j, j < k → cs j = 0) → cmpL f a b = cmpL f (a.drop k) (b.drop k) := by
    intro k
    induction k with
    | zero => intro _ _ _; rfl
    | succ k ih =>
      intro h1 h2 h3
      rw [ih (by omega) (by omega) (fun j hj => h3 j (by omega)), cmpL_step k (by omega) (by omega), if_pos]
      rw [← hc k (by omega) (by omega)]; exact h3 k (by omega)
  rcases h with ⟨k, h1, h2, h3, h4, rfl⟩ | ⟨h1, rfl⟩
  · rw [key k (by omega) (by omega) h3, cmpL_step k h1 h2, if_neg (by rw [← hc k h1 h2]; exact h4), hc k h1 h2]
  · rcases Nat.le_total a.length b.length with h | h
    · rw [key a.length (Nat.le_refl _) h (fun j hj => h1 j hj (by omega)), cmpL_end _ (Nat.le_refl _) h (.inl rfl)]
    · rw [key b.length h (Nat.le_refl _) (fun j hj => h1 j (by omega) hj), cmpL_end _ h (Nat.le_refl _) (.inr rfl)]
theorem pre_fin {m : Nat} {p : List (Fin m)} {x : Fin m} (h : p ++ [x] <+: List.finRange m) : ∀ j (hj : j < x.val), (⟨j, by have := x.isLt; omega⟩ : Fin m) ∈ p := by
  have hl : p.length + 1 ≤ m := by have := h.length_le; simpa using this
  have e := List.prefix_iff_eq_take.1 h
  rw [List.length_append, List.length_singleton, finRange_take_succ (by omega)] at e
  obtain ⟨e1, e2⟩ := List.append_inj' e rfl
  have e2 : x = ⟨p.length, by omega⟩ := by simpa using e2
  intro j hj
  rw [e2] at hj
  have hj' : j < p.length := hj
  rw [e1]
  refine List.mem_iff_getElem.2 ⟨j, by rw [List.length_take, List.length_finRange]; omega, by simp⟩
def lastC {m : Nat} (cs : Nat → Int) (pre : List (Fin m)) : Int := cs ((pre.getLast?.map Fin.val).getD 0)
theorem lastC_snoc {m : Nat} (cs : Nat → Int) (p : List (Fin m)) (x : Fin m) : lastC cs (p ++ [x]) = cs x.val := by simp [lastC]
theorem keepP_t {b b2 : Nat} {v u : Value} {A B C : World} (h : KeepP b b2 v u A B) (k : KeepP b b2 v u B C) : KeepP b b2 v u A C := h.trans k
theorem SlAt.row_lt {W : World} {v : Value} {xs : List Value} (h : SlAt W v xs) : ∀ g, rowOf v = some g → g < W.heap.size := by
  obtain ⟨a, c, rfl, _, _, hx⟩ := h
  intro g hg
  rcases hx with e | ⟨b, off, rfl, hb, _⟩
  · subst e; cases a <;> cases hg
  · cases xs with
    | nil => cases hg
    | cons x r => cases hg; exact hb

end Go.Proofs.Ytfcdajldpnomfaa

