/-
  Contract of label.Parse: any text as a label, or why it is none.
-/
import Derived.Test.YtbnkecmhmcligaaDoorMQ22
import Derived.Lib.IndexBytes
import Derived.Test.YtbnkecmhmcligaaDoorMQ38
namespace Go.Proofs.YtbnkecmhmcligaaDoor
set_option linter.unusedVariables false
set_option linter.unusedSimpArgs false
set_option maxRecDepth 20000
open Go.RowKit Go.Shelf

def scanM : Nat → List UInt8 → List UInt8 × Int
  | _, [] => ([], 0)
  | 0, _ :: _ => ([], 2)
  | n + 1, x :: r =>
    if (readM (x :: r)).2.2 = 0 then
      (if (scanM n ((x :: r).drop (readM (x :: r)).2.1)).2 = 0 then ((readM (x :: r)).1 :: (scanM n ((x :: r).drop (readM (x :: r)).2.1)).1, 0) else ([], (scanM n ((x :: r).drop (readM (x :: r)).2.1)).2))
    else ([], (readM (x :: r)).2.2)
def scan (l : List UInt8) : List UInt8 × Int := scanM l.length l
def join (xs : List UInt8) (t : List UInt8 × Int) : List UInt8 × Int := if t.2 = 0 then (xs ++ t.1, 0) else ([], t.2)
def parseM (l : List UInt8) : List UInt8 × Int :=
  if (scan l).2 = 0 then (if checkLabelM (scan l).1 = 0 then ((scan l).1, 0) else ([], checkLabelM (scan l).1)) else ([], (scan l).2)

theorem readM_size {l : List UInt8} (h0 : l ≠ []) (h : (readM l).2.2 = 0) : 1 ≤ (readM l).2.1 ∧ (readM l).2.1 ≤ 4 ∧ (readM l).2.1 ≤ l.length := by
  match l, h0 with
  | x :: r, _ =>
    simp only [readM] at h ⊢
    by_cases h1 : x = 46
    · simp [h1] at h
    by_cases h2 : x = 92
    · simp only [h2, ne_eq, not_true_eq_false, if_false, show ¬ (92 : UInt8) = 46 from by decide] at h ⊢
      match r with
      | [] => simp at h
      | [y] => by_cases g : digitU y = false <;> simp [g] at h ⊢
      | [y, z] => by_cases g : digitU y = false <;> simp [g] at h ⊢
      | y :: z :: u :: r3 =>
        by_cases g : digitU y = false
        · simp [g]
        by_cases g2 : digitU z = true ∧ digitU u = true
        · by_cases g3 : 255 < (y.toNat - 48) * 100 + (z.toNat - 48) * 10 + (u.toNat - 48)
          · simp [g, g2, g3] at h
          · simp [g, g2, g3]
        · simp [g, g2] at h
    · simp [h1, h2]

theorem scanM_fuel : ∀ (n : Nat) (l : List UInt8), l.length ≤ n → scanM n l = scan l := by
  intro n
  induction n using Nat.strongRecOn with
  | _ n ih =>
    intro l hl
    match l, n with
    | [], _ => simp [scanM, scan]
    | x :: r, 0 => simp at hl
    | x :: r, n + 1 =>
      unfold scan
      simp only [List.length_cons, scanM]
      by_cases h : (readM (x :: r)).2.2 = 0
      · have hs := readM_size (by simp) h
        have hd : ((x :: r).drop (readM (x :: r)).2.1).length ≤ r.length := by simp at hs ⊢; omega
        simp only [List.length_cons] at hl
        have e1 := ih n (by omega) _ (Nat.le_trans hd (by omega))
        rw [e1]
        by_cases hn : r.length = n
        · rw [hn, e1]
        · rw [ih r.length (by omega) _ hd]
      · simp [h]

theorem scanM_clean (n : Nat) (l : List UInt8) (h : (scanM n l).2 ≠ 0) : (scanM n l).1 = [] := by
  match n, l with
  | _, [] => simp [scanM]
  | 0, _ :: _ => simp [scanM]
  | n + 1, x :: r =>
    simp only [scanM] at h ⊢
    by_cases h1 : (readM (x :: r)).2.2 = 0
    · by_cases h2 : (scanM n ((x :: r).drop (readM (x :: r)).2.1)).2 = 0
      · simp [h1, h2] at h
      · simp [h1, h2]
    · simp [h1]
theorem join_nil (l : List UInt8) : scan l = join [] (scan l) := by
  unfold join
  by_cases h : (scan l).2 = 0
  · rw [if_pos h, List.nil_append, ← h]
  · rw [if_neg h, ← scanM_clean l.length l h]; rfl
theorem scan_nil : scan [] = ([], 0) := rfl
theorem scan_err {l : List UInt8} (h0 : l ≠ []) (h : (readM l).2.2 ≠ 0) : scan l = ([], (readM l).2.2) := by
  match l, h0 with
  | x :: r, _ => unfold scan; simp only [List.length_cons, scanM]; rw [if_neg h]
theorem scan_ok {l : List UInt8} (h0 : l ≠ []) (h : (readM l).2.2 = 0) : scan l = join [(readM l).1] (scan (l.drop (readM l).2.1)) := by
  match l, h0 with
  | x :: r, _ =>
    have hs := readM_size (l := x :: r) (by simp) h
    have hd : ((x :: r).drop (readM (x :: r)).2.1).length ≤ r.length := by simp at hs ⊢; omega
    have e : scan (x :: r) = scanM (r.length + 1) (x :: r) := rfl
    rw [e, scanM, if_pos h, scanM_fuel _ _ hd]
    unfold join; simp
theorem join_join (xs ys : List UInt8) (t : List UInt8 × Int) : join xs (join ys t) = join (xs ++ ys) t := by
  unfold join; by_cases h : t.2 = 0 <;> simp [h]

/-- The octets in the label that is read so far are no more than the bytes that were read. -/
theorem extract_drop (s : ByteArray) (k : Nat) : (s.extract k s.size).data.toList = s.data.toList.drop k := Lib.extract_to_end s k

def QW (W W' : World) : Prop := ∃ n, W' = W.drewN n
theorem QW.own {W W' : World} (h : QW W W') {base : Nat} {v : Value} {xs : List UInt8} (ho : OwnU8 W base v xs) : OwnU8 W' base v xs := by obtain ⟨n, rfl⟩ := h; exact ho
theorem QW.below {W W' : World} (h : QW W W') {B : Nat} {w : World} (hb : Below B w W) : Below B w W' := by obtain ⟨n, rfl⟩ := h; exact below_drewN hb n
theorem QW.size {W W' : World} (h : QW W W') : W'.heap.size = W.heap.size := by obtain ⟨n, rfl⟩ := h; rfl

def ParsePost (s : ByteArray) (w : World) (e : Ending) (w' : World) : Prop :=
  e = .returned (.tuple #[.string ⟨(parseM s.data.toList).1.toArray⟩, .int .i64 (parseM s.data.toList).2]) ∧ Below w.heap.size w w'
theorem parse_fin {s : ByteArray} {w w' : World} {e : Ending} (l : List UInt8) (er : Int) (h : parseM s.data.toList = (l, er)) (he : e = .returned (.tuple #[.string ⟨l.toArray⟩, .int .i64 er])) (hw : Below w.heap.size w w') : ParsePost s w e w' := by
  unfold ParsePost; rw [h]; exact ⟨he, hw⟩

end Go.Proofs.YtbnkecmhmcligaaDoor

/-
  Contract of label.Split: a text, parted at its dots.
-/
namespace Go.Proofs.YtbnkecmhmcligaaDoor
set_option linter.unusedVariables false
set_option linter.unusedSimpArgs false
set_option maxRecDepth 20000
open Go.RowKit Go.Shelf

/-- How far a text is parted: where we are, where the part at hand begins, whether a stroke is ahead, the parts (from, to). -/
structure SpSt where
  at' : Nat
  start : Nat
  taken : Bool
  parts : List (Nat × Nat)
def spStep (t : SpSt) (c : UInt8) : SpSt :=
  if t.taken then ⟨t.at' + 1, t.start, false, t.parts⟩ else if c = 92 then ⟨t.at' + 1, t.start, true, t.parts⟩
  else if c = 46 then ⟨t.at' + 1, t.at' + 1, false, t.parts ++ [(t.start, t.at')]⟩ else ⟨t.at' + 1, t.start, false, t.parts⟩
def spRun (l : List UInt8) : SpSt := l.foldl spStep ⟨0, 0, false, []⟩
theorem spRun_snoc (l : List UInt8) (c : UInt8) : spRun (l ++ [c]) = spStep (spRun l) c := by simp [spRun]
theorem spRun_inv (l : List UInt8) : (spRun l).at' = l.length ∧ (spRun l).start ≤ l.length ∧ (spRun l).parts.length ≤ l.length := by
  suffices h : ∀ (l : List UInt8) (t : SpSt) (n : Nat), t.at' = n → t.start ≤ n → t.parts.length ≤ n → (l.foldl spStep t).at' = n + l.length ∧ (l.foldl spStep t).start ≤ n + l.length ∧ (l.foldl spStep t).parts.length ≤ n + l.length by
    have := h l ⟨0, 0, false, []⟩ 0 rfl (Nat.le_refl _) (Nat.le_refl _)
    unfold spRun; simp only [Nat.zero_add] at this; exact this
  intro l
  induction l with
  | nil => intro t n h1 h2 h3; simp [h1, h2, h3]
  | cons c l ih =>
    intro t n h1 h2 h3
    have := ih (spStep t c) (n + 1) (by unfold spStep; split <;> (try split) <;> (try split) <;> simp [h1]) (by unfold spStep; split <;> (try split) <;> (try split) <;> simp <;> omega) (by unfold spStep; split <;> (try split) <;> (try split) <;> simp <;> omega)
    simp only [List.foldl_cons, List.length_cons]
    obtain ⟨a, b, d⟩ := this
    exact ⟨by omega, by omega, by omega⟩
def piece (s : List UInt8) (p : Nat × Nat) : List UInt8 := (s.take p.2).drop p.1
def splitM (s : List UInt8) : List (List UInt8) × Int :=
  if (spRun s).taken then ([], 2) else ((spRun s).parts.map (piece s) ++ [s.drop (spRun s).start], 0)

theorem spStep_taken {t : SpSt} {c : UInt8} (h : t.taken = true) : spStep t c = ⟨t.at' + 1, t.start, false, t.parts⟩ := by simp [spStep, h]
theorem spStep_stroke {t : SpSt} {c : UInt8} (h : t.taken = false) (h2 : ((c.toNat : Int) == 92) = true) : spStep t c = ⟨t.at' + 1, t.start, true, t.parts⟩ := by
  have : c = 92 := u8_is (n := 92) (by omega) h2
  simp [spStep, h, this]
theorem spStep_dot {t : SpSt} {c : UInt8} (h : t.taken = false) (h3 : ((c.toNat : Int) == 46) = true) : spStep t c = ⟨t.at' + 1, t.at' + 1, false, t.parts ++ [(t.start, t.at')]⟩ := by
  have : c = 46 := u8_is (n := 46) (by omega) h3
  simp [spStep, h, this]
theorem spStep_other {t : SpSt} {c : UInt8} (h : t.taken = false) (h2 : ((c.toNat : Int) == 92) = false) (h3 : ((c.toNat : Int) == 46) = false) : spStep t c = ⟨t.at' + 1, t.start, false, t.parts⟩ := by
  have e1 : c ≠ 92 := u8_isnt (n := 92) (by omega) h2
  have e2 : c ≠ 46 := u8_isnt (n := 46) (by omega) h3
  simp [spStep, h, e1, e2]

/-- The parts that are made. -/
def spParts (s : ByteArray) (pre : List UInt8) : List (List UInt8) := (spRun pre).parts.map (piece s.data.toList)

/-- The boxes of a call of Split, and what they hold. -/
def SpG (s : ByteArray) (w : World) (parts : List (List UInt8)) (start at' : Int) (taken : Bool) (W : World) : Prop :=
  Boxed W w.heap.size 9 (.string s) ∧ GBox 9 35 strV (w.heap.size + 1) (w.heap.size + 6) parts W ∧ Boxed W (w.heap.size + 1 + 1) 3 (.int .i64 start) ∧
  Boxed W (w.heap.size + 1 + 1 + 1) 3 (.int .i64 at') ∧ Boxed W (w.heap.size + 1 + 1 + 1 + 1) 4 (.bool taken) ∧ Boxed W (w.heap.size + 1 + 1 + 1 + 1 + 1) 9 (.string s) ∧ Below w.heap.size w W
def SpInv (s : ByteArray) (w : World) (pre : List UInt8) (W : World) : Prop := SpG s w (spParts s pre) ((spRun pre).start : Int) (pre.length : Int) (spRun pre).taken W
/-- What a step of a round has done. -/
def SpTo (s : ByteArray) (w W : World) (parts : List (List UInt8)) (start at' : Int) (taken : Bool) (W' : World) : Prop :=
  KeepsOthers W W' ∧ KeepB (w.heap.size + 1 + 1 + 1 + 1 + 1) W W' ∧ SpG s w parts start at' taken W'
section
variable {s : ByteArray} {w W X : World} {parts : List (List UInt8)} {start at' : Int} {taken : Bool}
theorem SpTo.setTaken (h : SpTo s w W parts start at' taken X) (b : Bool) : SpTo s w W parts start at' b (X.setCell ⟨w.heap.size + 1 + 1 + 1 + 1, 0, none⟩ (.bool b)) := by
  obtain ⟨k1, k2, h0, h1, h2, h3, h4, h5, hB⟩ := h
  exact ⟨k1.trans (KeepsOthers.setCell _ _ _), k2.trans (KeepB.setCell _ _ (by omega)), h0.other (by omega) _, h1.setOther h4 (by decide) (by omega) _, h2.other (by omega) _, h3.other (by omega) _, h4.set _, h5.other (by omega) _, hB.trans ((Below.refl _ _).setCell (p := ⟨w.heap.size + 1 + 1 + 1 + 1, 0, none⟩) (by simp; omega) _)⟩
theorem SpTo.setAt (h : SpTo s w W parts start at' taken X) (n : Int) : SpTo s w W parts start n taken (X.setCell ⟨w.heap.size + 1 + 1 + 1, 0, none⟩ (.int .i64 n)) := by
  obtain ⟨k1, k2, h0, h1, h2, h3, h4, h5, hB⟩ := h
  exact ⟨k1.trans (KeepsOthers.setCell _ _ _), k2.trans (KeepB.setCell _ _ (by omega)), h0.other (by omega) _, h1.setOther h3 (by decide) (by omega) _, h2.other (by omega) _, h3.set _, h4.other (by omega) _, h5.other (by omega) _, hB.trans ((Below.refl _ _).setCell (p := ⟨w.heap.size + 1 + 1 + 1, 0, none⟩) (by simp; omega) _)⟩
theorem SpTo.setStart (h : SpTo s w W parts start at' taken X) (n : Int) : SpTo s w W parts n at' taken (X.setCell ⟨w.heap.size + 1 + 1, 0, none⟩ (.int .i64 n)) := by
  obtain ⟨k1, k2, h0, h1, h2, h3, h4, h5, hB⟩ := h
  exact ⟨k1.trans (KeepsOthers.setCell _ _ _), k2.trans (KeepB.setCell _ _ (by omega)), h0.other (by omega) _, h1.setOther h2 (by decide) (by omega) _, h2.set _, h3.other (by omega) _, h4.other (by omega) _, h5.other (by omega) _, hB.trans ((Below.refl _ _).setCell (p := ⟨w.heap.size + 1 + 1, 0, none⟩) (by simp; omega) _)⟩
theorem SpTo.box1 (h : SpTo s w W parts start at' taken X) {u : Value} (hu : Boxed X (w.heap.size + 1) 35 u) (ho : OwnG 9 strV X (w.heap.size + 6) u parts) {w1 : World} (hg : X.grownBy w1 u.ownBlock) : Boxed w1 (w.heap.size + 1) 35 u := by
  have := h.1; exact hu.kept hg (fun e => by have := ho.base_le _ e.symm; omega)
theorem SpTo.box2 (h : SpTo s w W parts start at' taken X) {u : Value} (ho : OwnG 9 strV X (w.heap.size + 6) u parts) {w1 : World} (hg : X.grownBy w1 u.ownBlock) : Boxed w1 (w.heap.size + 1 + 1) 3 (.int .i64 start) :=
  h.2.2.2.2.1.kept hg (fun e => by have := ho.base_le _ e.symm; omega)
theorem SpTo.box3 (h : SpTo s w W parts start at' taken X) {u : Value} (ho : OwnG 9 strV X (w.heap.size + 6) u parts) {w1 : World} (hg : X.grownBy w1 u.ownBlock) : Boxed w1 (w.heap.size + 1 + 1 + 1) 3 (.int .i64 at') :=
  h.2.2.2.2.2.1.kept hg (fun e => by have := ho.base_le _ e.symm; omega)
theorem SpTo.app (h : SpTo s w W parts start at' taken X) {u v' : Value} (hu : Boxed X (w.heap.size + 1) 35 u) (ho : OwnG 9 strV X (w.heap.size + 6) u parts) (hbase : w.heap.size + 6 ≤ X.heap.size) {w1 : World} {p2 : List (List UInt8)} (ho' : OwnG 9 strV w1 (w.heap.size + 6) v' p2) (hg : X.grownBy w1 u.ownBlock) :
    SpTo s w W p2 start at' taken (w1.setCell ⟨w.heap.size + 1, 0, none⟩ v') := by
  obtain ⟨k1, k2, h0, _, h2, h3, h4, h5, hB⟩ := h
  obtain ⟨_, g2, g3, g4, g5⟩ := gboxed_appends2 (n₀ := w.heap.size) (by decide) hu ho (by omega) (by omega) hbase ho' hg
  exact ⟨k1.trans g3, k2.trans (g5 _ (by omega) (by omega)), boxed_keep (g5 _ (by omega) (by omega)) h0, g2, boxed_keep (g5 _ (by omega) (by omega)) h2, boxed_keep (g5 _ (by omega) (by omega)) h3, boxed_keep (g5 _ (by omega) (by omega)) h4, boxed_keep (g5 _ (by omega) (by omega)) h5, hB.trans g4⟩
theorem SpTo.drew (h : SpTo s w W parts start at' taken X) : SpTo s w W parts start at' taken X.drew := by
  obtain ⟨k1, k2, h0, h1, h2, h3, h4, h5, hB⟩ := h
  exact ⟨k1.trans (KeepsOthers.drew _), k2, h0, h1, h2, h3, h4, h5, hB.drew⟩
theorem SpTo.fin {pre : List UInt8} {c : UInt8} {B : Nat} {p2 : List (List UInt8)} {st2 at2 : Int} {tk2 : Bool} (h : SpTo s w W p2 st2 at2 tk2 X) (e1 : spParts s (pre ++ [c]) = p2) (e2 : ((spRun (pre ++ [c])).start : Int) = st2) (e3 : ((pre ++ [c]).length : Int) = at2) (e4 : (spRun (pre ++ [c])).taken = tk2) :
    KeepsFrom B W X ∧ KeepB (w.heap.size + 1 + 1 + 1 + 1 + 1) W X ∧ SpInv s w (pre ++ [c]) X := by
  subst e1 e2 e3 e4; exact ⟨h.1.from _, h.2.1, h.2.2⟩
end

def SplitPost (s : ByteArray) (w : World) (e : Ending) (w' : World) : Prop :=
  ∃ v, e = .returned (.tuple #[v, .int .i64 (splitM s.data.toList).2]) ∧ OwnG 9 strV w' w.heap.size v (splitM s.data.toList).1 ∧ Below w.heap.size w w'

theorem split_fin {s : ByteArray} {w w' : World} {e : Ending} {v : Value} (l : List (List UInt8)) (er : Int) (h : splitM s.data.toList = (l, er)) (he : e = .returned (.tuple #[v, .int .i64 er])) (ho : OwnG 9 strV w' w.heap.size v l) (hw : Below w.heap.size w w') : SplitPost s w e w' := by
  unfold SplitPost; rw [h]; exact ⟨v, he, ho, hw⟩

section
attribute [local go_sem] Oper.semAt_some
end

end Go.Proofs.YtbnkecmhmcligaaDoor

