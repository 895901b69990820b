/-
  Contract of label.Split: a text, parted at its dots.
-/
import Derived.Test.YteppgeiejknhoaaMQ09
import Derived.Test.YteppgeiejknhoaaMQ23
namespace Go.Proofs.Yteppgeiejknhoaa
set_option maxRecDepth 20000
open Go.RowKit Go.Shelf

/-- How far a text is parted: where we are, where the part at hand begins, whether a stroke is ahead, the parts (from, to). -/
structure SpSt where
  at' : Nat
  start : Nat
  taken : Bool
  parts : List (Nat × Nat)
def spStep (t : SpSt) (c : UInt8) : SpSt :=
  if t.taken then ⟨t.at' + 1, t.start, false, t.parts⟩ else if c = 92 then ⟨t.at' + 1, t.start, true, t.parts⟩
  else if c = 46 then ⟨t.at' + 1, t.at' + 1, false, t.parts ++ [(t.start, t.at')]⟩ else ⟨t.at' + 1, t.start, false, t.parts⟩
def spRun (l : List UInt8) : SpSt := l.foldl spStep ⟨0, 0, false, []⟩
theorem spRun_snoc (l : List UInt8) (c : UInt8) : spRun (l ++ [c]) = spStep (spRun l) c := by simp [spRun]
theorem spRun_inv (l : List UInt8) : (spRun l).at' = l.length ∧ (spRun l).start ≤ l.length ∧ (spRun l).parts.length ≤ l.length := by
  suffices h : ∀ (l : List UInt8) (t : SpSt) (n : Nat), t.at' = n → t.start ≤ n → t.parts.length ≤ n → (l.foldl spStep t).at' = n + l.length ∧ (l.foldl spStep t).start ≤ n + l.length ∧ (l.foldl spStep t).parts.length ≤ n + l.length by
    have := h l ⟨0, 0, false, []⟩ 0 rfl (Nat.le_refl _) (Nat.le_refl _)
    unfold spRun; simp only [Nat.zero_add] at this; exact this
  intro l
  induction l with
  | nil => intro t n h1 h2 h3; simp [h1, h2, h3]
  | cons c l ih =>
    intro t n h1 h2 h3
    have := ih (spStep t c) (n + 1) (by unfold spStep; split <;> (try split) <;> (try split) <;> simp [h1]) (by unfold spStep; split <;> (try split) <;> (try split) <;> simp <;> omega) (by unfold spStep; split <;> (try split) <;> (try split) <;> simp <;> omega)
    simp only [List.foldl_cons, List.length_cons]
    obtain ⟨a, b, d⟩ := this
    exact ⟨by omega, by omega, by omega⟩
def piece (s : List UInt8) (p : Nat × Nat) : List UInt8 := (s.take p.2).drop p.1
def splitM (s : List UInt8) : List (List UInt8) × Int :=
  if (spRun s).taken then ([], 2) else ((spRun s).parts.map (piece s) ++ [s.drop (spRun s).start], 0)

theorem spStep_taken {t : SpSt} {c : UInt8} (h : t.taken = true) : spStep t c = ⟨t.at' + 1, t.start, false, t.parts⟩ := by simp [spStep, h]
theorem spStep_stroke {t : SpSt} {c : UInt8} (h : t.taken = false) (h2 : ((c.toNat : Int) == 92) = true) : spStep t c = ⟨t.at' + 1, t.start, true, t.parts⟩ := by
  have : c = 92 := u8_is (n := 92) (by omega) h2
  simp [spStep, h, this]
theorem spStep_dot {t : SpSt} {c : UInt8} (h : t.taken = false) (h3 : ((c.toNat : Int) == 46) = true) : spStep t c = ⟨t.at' + 1, t.at' + 1, false, t.parts ++ [(t.start, t.at')]⟩ := by
  have : c = 46 := u8_is (n := 46) (by omega) h3
  simp [spStep, h, this]
theorem spStep_other {t : SpSt} {c : UInt8} (h : t.taken = false) (h2 : ((c.toNat : Int) == 92) = false) (h3 : ((c.toNat : Int) == 46) = false) : spStep t c = ⟨t.at' + 1, t.start, false, t.parts⟩ := by
  have e1 : c ≠ 92 := u8_isnt (n := 92) (by omega) h2
  have e2 : c ≠ 46 := u8_isnt (n := 46) (by omega) h3
  simp [spStep, h, e1, e2]

/-- The parts that are made. -/
def spParts (s : ByteArray) (pre : List UInt8) : List (List UInt8) := (spRun pre).parts.map (piece s.data.toList)

/-- The boxes of a call of Split, and what they hold. -/
def SpG (s : ByteArray) (w : World) (parts : List (List UInt8)) (start at' : Int) (taken : Bool) (W : World) : Prop :=
  Boxed W w.heap.size 9 (.string s) ∧ GBox 9 22 strV (w.heap.size + 1) (w.heap.size + 6) parts W ∧ Boxed W (w.heap.size + 1 + 1) 3 (.int .i64 start) ∧
  Boxed W (w.heap.size + 1 + 1 + 1) 3 (.int .i64 at') ∧ Boxed W (w.heap.size + 1 + 1 + 1 + 1) 4 (.bool taken) ∧ Boxed W (w.heap.size + 1 + 1 + 1 + 1 + 1) 9 (.string s) ∧ Below w.heap.size w W
def SpInv (s : ByteArray) (w : World) (pre : List UInt8) (W : World) : Prop := SpG s w (spParts s pre) ((spRun pre).start : Int) (pre.length : Int) (spRun pre).taken W
/-- What a step of a round has done. -/
def SpTo (s : ByteArray) (w W : World) (parts : List (List UInt8)) (start at' : Int) (taken : Bool) (W' : World) : Prop :=
  KeepsOthers W W' ∧ KeepB (w.heap.size + 1 + 1 + 1 + 1 + 1) W W' ∧ SpG s w parts start at' taken W'
section
variable {s : ByteArray} {w W X : World} {parts : List (List UInt8)} {start at' : Int} {taken : Bool}
theorem SpTo.setTaken (h : SpTo s w W parts start at' taken X) (b : Bool) : SpTo s w W parts start at' b (X.setCell ⟨w.heap.size + 1 + 1 + 1 + 1, 0, none⟩ (.bool b)) := by
  obtain ⟨k1, k2, h0, h1, h2, h3, h4, h5, hB⟩ := h
  exact ⟨k1.trans (KeepsOthers.setCell _ _ _), k2.trans (KeepB.setCell _ _ (by omega)), h0.other (by omega) _, h1.setOther h4 (by decide) (by omega) _, h2.other (by omega) _, h3.other (by omega) _, h4.set _, h5.other (by omega) _, hB.trans ((Below.refl _ _).setCell (p := ⟨w.heap.size + 1 + 1 + 1 + 1, 0, none⟩) (by simp; omega) _)⟩
theorem SpTo.setAt (h : SpTo s w W parts start at' taken X) (n : Int) : SpTo s w W parts start n taken (X.setCell ⟨w.heap.size + 1 + 1 + 1, 0, none⟩ (.int .i64 n)) := by
  obtain ⟨k1, k2, h0, h1, h2, h3, h4, h5, hB⟩ := h
  exact ⟨k1.trans (KeepsOthers.setCell _ _ _), k2.trans (KeepB.setCell _ _ (by omega)), h0.other (by omega) _, h1.setOther h3 (by decide) (by omega) _, h2.other (by omega) _, h3.set _, h4.other (by omega) _, h5.other (by omega) _, hB.trans ((Below.refl _ _).setCell (p := ⟨w.heap.size + 1 + 1 + 1, 0, none⟩) (by simp; omega) _)⟩
theorem SpTo.setStart (h : SpTo s w W parts start at' taken X) (n : Int) : SpTo s w W parts n at' taken (X.setCell ⟨w.heap.size + 1 + 1, 0, none⟩ (.int .i64 n)) := by
  obtain ⟨k1, k2, h0, h1, h2, h3, h4, h5, hB⟩ := h
  exact ⟨k1.trans (KeepsOthers.setCell _ _ _), k2.trans (KeepB.setCell _ _ (by omega)), h0.other (by omega) _, h1.setOther h2 (by decide) (by omega) _, h2.set _, h3.other (by omega) _, h4.other (by omega) _, h5.other (by omega) _, hB.trans ((Below.refl _ _).setCell (p := ⟨w.heap.size + 1 + 1, 0, none⟩) (by simp; omega) _)⟩
theorem SpTo.box1 (h : SpTo s w W parts start at' taken X) {u : Value} (hu : Boxed X (w.heap.size + 1) 22 u) (ho : OwnG 9 strV X (w.heap.size + 6) u parts) {w1 : World} (hg : X.grownBy w1 u.ownBlock) : Boxed w1 (w.heap.size + 1) 22 u := by
  have := h.1; exact hu.kept hg (fun e => by have := ho.base_le _ e.symm; omega)
theorem SpTo.box2 (h : SpTo s w W parts start at' taken X) {u : Value} (ho : OwnG 9 strV X (w.heap.size + 6) u parts) {w1 : World} (hg : X.grownBy w1 u.ownBlock) : Boxed w1 (w.heap.size + 1 + 1) 3 (.int .i64 start) :=
  h.2.2.2.2.1.kept hg (fun e => by have := ho.base_le _ e.symm; omega)
theorem SpTo.box3 (h : SpTo s w W parts start at' taken X) {u : Value} (ho : OwnG 9 strV X (w.heap.size + 6) u parts) {w1 : World} (hg : X.grownBy w1 u.ownBlock) : Boxed w1 (w.heap.size + 1 + 1 + 1) 3 (.int .i64 at') :=
  h.2.2.2.2.2.1.kept hg (fun e => by have := ho.base_le _ e.symm; omega)
theorem SpTo.app (h : SpTo s w W parts start at' taken X) {u v' : Value} (hu : Boxed X (w.heap.size + 1) 22 u) (ho : OwnG 9 strV X (w.heap.size + 6) u parts) (hbase : w.heap.size + 6 ≤ X.heap.size) {w1 : World} {p2 : List (List UInt8)} (ho' : OwnG 9 strV w1 (w.heap.size + 6) v' p2) (hg : X.grownBy w1 u.ownBlock) :
    SpTo s w W p2 start at' taken (w1.setCell ⟨w.heap.size + 1, 0, none⟩ v') := by
  obtain ⟨k1, k2, h0, _, h2, h3, h4, h5, hB⟩ := h
  obtain ⟨_, g2, g3, g4, g5⟩ := gboxed_appends2 (n₀ := w.heap.size) (by decide) hu ho (by omega) (by omega) hbase ho' hg
  exact ⟨k1.trans g3, k2.trans (g5 _ (by omega) (by omega)), boxed_keep (g5 _ (by omega) (by omega)) h0, g2, boxed_keep (g5 _ (by omega) (by omega)) h2, boxed_keep (g5 _ (by omega) (by omega)) h3, boxed_keep (g5 _ (by omega) (by omega)) h4, boxed_keep (g5 _ (by omega) (by omega)) h5, hB.trans g4⟩
theorem SpTo.drew (h : SpTo s w W parts start at' taken X) : SpTo s w W parts start at' taken X.drew := by
  obtain ⟨k1, k2, h0, h1, h2, h3, h4, h5, hB⟩ := h
  exact ⟨k1.trans (KeepsOthers.drew _), k2, h0, h1, h2, h3, h4, h5, hB.drew⟩
theorem SpTo.fin {pre : List UInt8} {c : UInt8} {B : Nat} {p2 : List (List UInt8)} {st2 at2 : Int} {tk2 : Bool} (h : SpTo s w W p2 st2 at2 tk2 X) (e1 : spParts s (pre ++ [c]) = p2) (e2 : ((spRun (pre ++ [c])).start : Int) = st2) (e3 : ((pre ++ [c]).length : Int) = at2) (e4 : (spRun (pre ++ [c])).taken = tk2) :
    KeepsFrom B W X ∧ KeepB (w.heap.size + 1 + 1 + 1 + 1 + 1) W X ∧ SpInv s w (pre ++ [c]) X := by
  subst e1 e2 e3 e4; exact ⟨h.1.from _, h.2.1, h.2.2⟩
end

def SplitPost (s : ByteArray) (w : World) (e : Ending) (w' : World) : Prop :=
  ∃ v, e = .returned (.tuple #[v, .int .i64 (splitM s.data.toList).2]) ∧ OwnG 9 strV w' w.heap.size v (splitM s.data.toList).1 ∧ Below w.heap.size w w'

theorem split_fin {s : ByteArray} {w w' : World} {e : Ending} {v : Value} (l : List (List UInt8)) (er : Int) (h : splitM s.data.toList = (l, er)) (he : e = .returned (.tuple #[v, .int .i64 er])) (ho : OwnG 9 strV w' w.heap.size v l) (hw : Below w.heap.size w w') : SplitPost s w e w' := by
  unfold SplitPost; rw [h]; exact ⟨v, he, ho, hw⟩

section
attribute [local go_sem] Oper.semAt_some
end

end Go.Proofs.Yteppgeiejknhoaa

