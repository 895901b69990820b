import Derived.Test.YtckammgnmgkieaaGreatMQ17
namespace Go.Proofs.YtckammgnmgkieaaGreat
set_option maxRecDepth 20000
open Go.RowKit Go.Shelf
structure SpSt where
 at' : Nat
 start : Nat
 taken : Bool
 parts : List (Nat × Nat)
def spStep (t : SpSt) (c : UInt8) : SpSt :=
 if t.taken then ⟨t.at' + 1, t.start, false, t.parts⟩ else if c = 92 then ⟨t.at' + 1, t.start, true, t.parts⟩
 else if c = 46 then ⟨t.at' + 1, t.at' + 1, false, t.parts ++ [(t.start, t.at')]⟩ else ⟨t.at' + 1, t.start, false, t.parts⟩
def spRun (l : List UInt8) : SpSt := l.foldl spStep ⟨0, 0, false, []⟩
theorem qbY (l : List UInt8) (c : UInt8) : spRun (l ++ [c]) = spStep (spRun l) c := by simp [spRun]
theorem qgU (l : List UInt8) : (spRun l).at' = l.length ∧ (spRun l).start ≤ l.length ∧ (spRun l).parts.length ≤ l.length := by
 suffices h : ∀ (l : List UInt8) (t : SpSt) (n : Nat), t.at' = n → t.start ≤ n → t.parts.length ≤ n → (l.foldl spStep t).at' = n + l.length ∧ (l.foldl spStep t).start ≤ n + l.length ∧ (l.foldl spStep t).parts.length ≤ n + l.length by
  have := h l ⟨0, 0, false, []⟩ 0 rfl (qN0) (qN0)
  unfold spRun; simp only [Nat.zero_add] at this; exact this
 intro l
 induction l with
 | nil => intro t n h1 h2 h3; simp [h1, h2, h3]
 | cons c l ih =>
  intro t n h1 h2 h3
  have := ih (spStep t c) (n + 1) (by unfold spStep; split <;> (try split) <;> (try split) <;> simp [h1]) (by unfold spStep; split <;> (try split) <;> (try split) <;> simp <;> omega) (by unfold spStep; split <;> (try split) <;> (try split) <;> simp <;> omega)
  simp only [List.foldl_cons, List.length_cons]
  obtain ⟨a, b, d⟩ := this
  exact ⟨by omega, by omega, by omega⟩
def piece (s : List UInt8) (p : Nat × Nat) : List UInt8 := (s.take p.2).drop p.1
def splitM (s : List UInt8) : List (List UInt8) × Int :=
 if (spRun s).taken then ([], 2) else ((spRun s).parts.map (piece s) ++ [s.drop (spRun s).start], 0)
theorem qh9 {t : SpSt} {c : UInt8} (h : t.taken = true) : spStep t c = ⟨t.at' + 1, t.start, false, t.parts⟩ := by simp [spStep, h]
theorem qd1 {t : SpSt} {c : UInt8} (h : t.taken = false) (h2 : ((c.toNat : Int) == 92) = true) : spStep t c = ⟨t.at' + 1, t.start, true, t.parts⟩ := by
 have : c = 92 := u8_is (n := 92) (by omega) h2
 simp [spStep, h, this]
theorem qjD {t : SpSt} {c : UInt8} (h : t.taken = false) (h3 : ((c.toNat : Int) == 46) = true) : spStep t c = ⟨t.at' + 1, t.at' + 1, false, t.parts ++ [(t.start, t.at')]⟩ := by
 have : c = 46 := u8_is (n := 46) (by omega) h3
 simp [spStep, h, this]
def qjs (s : ByteArray) (pre : List UInt8) : List (List UInt8) := (spRun pre).parts.map (piece s.data.toList)
def SpG (s : ByteArray) (w : World) (parts : List (List UInt8)) (start at' : Int) (taken : Bool) (W : World) : Prop :=
 Boxed W w.heap.size 9 (.string s) ∧ GBox 9 23 strV (w.heap.size + 1) (w.heap.size + 6) parts W ∧ Boxed W (w.heap.size + 1 + 1) 3 (.int .i64 start) ∧
 Boxed W (w.heap.size + 1 + 1 + 1) 3 (.int .i64 at') ∧ Boxed W (w.heap.size + 1 + 1 + 1 + 1) 4 (.bool taken) ∧ Boxed W (w.heap.size + 1 + 1 + 1 + 1 + 1) 9 (.string s) ∧ Below w.heap.size w W
def SpInv (s : ByteArray) (w : World) (pre : List UInt8) (W : World) : Prop := SpG s w (qjs s pre) ((spRun pre).start : Int) (pre.length : Int) (spRun pre).taken W
def SpTo (s : ByteArray) (w W : World) (parts : List (List UInt8)) (start at' : Int) (taken : Bool) (W' : World) : Prop :=
 KeepsOthers W W' ∧ KeepB (w.heap.size + 1 + 1 + 1 + 1 + 1) W W' ∧ SpG s w parts start at' taken W'
section
variable {s : ByteArray} {w W X : World} {parts : List (List UInt8)} {start at' : Int} {taken : Bool}
theorem SpTo.drew (h : SpTo s w W parts start at' taken X) : SpTo s w W parts start at' taken X.drew := by
 obtain ⟨k1, k2, h0, h1, h2, h3, h4, h5, hB⟩ := h
 exact ⟨k1.trans (KeepsOthers.drew _), k2, h0, h1, h2, h3, h4, h5, hB.drew⟩
theorem SpTo.fin {pre : List UInt8} {c : UInt8} {B : Nat} {p2 : List (List UInt8)} {st2 at2 : Int} {tk2 : Bool} (h : SpTo s w W p2 st2 at2 tk2 X) (e1 : qjs s (pre ++ [c]) = p2) (e2 : ((spRun (pre ++ [c])).start : Int) = st2) (e3 : ((pre ++ [c]).length : Int) = at2) (e4 : (spRun (pre ++ [c])).taken = tk2) :
 KeepsFrom B W X ∧ KeepB (w.heap.size + 1 + 1 + 1 + 1 + 1) W X ∧ SpInv s w (pre ++ [c]) X := by
 subst e1 e2 e3 e4; exact ⟨h.1.from _, h.2.1, h.2.2⟩
end
section
attribute [local go_sem] Oper.semAt_some
end
end Go.Proofs.YtckammgnmgkieaaGreat
