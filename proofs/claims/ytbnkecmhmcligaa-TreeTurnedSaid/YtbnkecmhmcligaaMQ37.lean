/-
  Contract of label.Parse: any text as a label, or why it is none.
-/
import Derived.Test.YtbnkecmhmcligaaMQ11
import Derived.Lib.IndexBytes
namespace Go.Proofs.Ytbnkecmhmcligaa
set_option linter.unusedVariables false
set_option linter.unusedSimpArgs false
set_option maxRecDepth 20000
open Go.RowKit Go.Shelf

def scanM : Nat → List UInt8 → List UInt8 × Int
  | _, [] => ([], 0)
  | 0, _ :: _ => ([], 2)
  | n + 1, x :: r =>
    if (readM (x :: r)).2.2 = 0 then
      (if (scanM n ((x :: r).drop (readM (x :: r)).2.1)).2 = 0 then ((readM (x :: r)).1 :: (scanM n ((x :: r).drop (readM (x :: r)).2.1)).1, 0) else ([], (scanM n ((x :: r).drop (readM (x :: r)).2.1)).2))
    else ([], (readM (x :: r)).2.2)
def scan (l : List UInt8) : List UInt8 × Int := scanM l.length l
def join (xs : List UInt8) (t : List UInt8 × Int) : List UInt8 × Int := if t.2 = 0 then (xs ++ t.1, 0) else ([], t.2)
def parseM (l : List UInt8) : List UInt8 × Int :=
  if (scan l).2 = 0 then (if checkLabelM (scan l).1 = 0 then ((scan l).1, 0) else ([], checkLabelM (scan l).1)) else ([], (scan l).2)

theorem readM_size {l : List UInt8} (h0 : l ≠ []) (h : (readM l).2.2 = 0) : 1 ≤ (readM l).2.1 ∧ (readM l).2.1 ≤ 4 ∧ (readM l).2.1 ≤ l.length := by
  match l, h0 with
  | x :: r, _ =>
    simp only [readM] at h ⊢
    by_cases h1 : x = 46
    · simp [h1] at h
    by_cases h2 : x = 92
    · simp only [h2, ne_eq, not_true_eq_false, if_false, show ¬ (92 : UInt8) = 46 from by decide] at h ⊢
      match r with
      | [] => simp at h
      | [y] => by_cases g : digitU y = false <;> simp [g] at h ⊢
      | [y, z] => by_cases g : digitU y = false <;> simp [g] at h ⊢
      | y :: z :: u :: r3 =>
        by_cases g : digitU y = false
        · simp [g]
        by_cases g2 : digitU z = true ∧ digitU u = true
        · by_cases g3 : 255 < (y.toNat - 48) * 100 + (z.toNat - 48) * 10 + (u.toNat - 48)
          · simp [g, g2, g3] at h
          · simp [g, g2, g3]
        · simp [g, g2] at h
    · simp [h1, h2]

theorem scanM_fuel : ∀ (n : Nat) (l : List UInt8), l.length ≤ n → scanM n l = scan l := by
  intro n
  induction n using Nat.strongRecOn with
  | _ n ih =>
    intro l hl
    match l, n with
    | [], _ => simp [scanM, scan]
    | x :: r, 0 => simp at hl
    | x :: r, n + 1 =>
      unfold scan
      simp only [List.length_cons, scanM]
      by_cases h : (readM (x :: r)).2.2 = 0
      · have hs := readM_size (by simp) h
        have hd : ((x :: r).drop (readM (x :: r)).2.1).length ≤ r.length := by simp at hs ⊢; omega
        simp only [List.length_cons] at hl
        have e1 := ih n (by omega) _ (Nat.le_trans hd (by omega))
        rw [e1]
        by_cases hn : r.length = n
        · rw [hn, e1]
        · rw [ih r.length (by omega) _ hd]
      · simp [h]

theorem scanM_clean (n : Nat) (l : List UInt8) (h : (scanM n l).2 ≠ 0) : (scanM n l).1 = [] := by
  match n, l with
  | _, [] => simp [scanM]
  | 0, _ :: _ => simp [scanM]
  | n + 1, x :: r =>
    simp only [scanM] at h ⊢
    by_cases h1 : (readM (x :: r)).2.2 = 0
    · by_cases h2 : (scanM n ((x :: r).drop (readM (x :: r)).2.1)).2 = 0
      · simp [h1, h2] at h
      · simp [h1, h2]
    · simp [h1]
theorem join_nil (l : List UInt8) : scan l = join [] (scan l) := by
  unfold join
  by_cases h : (scan l).2 = 0
  · rw [if_pos h, List.nil_append, ← h]
  · rw [if_neg h, ← scanM_clean l.length l h]; rfl
theorem scan_nil : scan [] = ([], 0) := rfl
theorem scan_err {l : List UInt8} (h0 : l ≠ []) (h : (readM l).2.2 ≠ 0) : scan l = ([], (readM l).2.2) := by
  match l, h0 with
  | x :: r, _ => unfold scan; simp only [List.length_cons, scanM]; rw [if_neg h]
theorem scan_ok {l : List UInt8} (h0 : l ≠ []) (h : (readM l).2.2 = 0) : scan l = join [(readM l).1] (scan (l.drop (readM l).2.1)) := by
  match l, h0 with
  | x :: r, _ =>
    have hs := readM_size (l := x :: r) (by simp) h
    have hd : ((x :: r).drop (readM (x :: r)).2.1).length ≤ r.length := by simp at hs ⊢; omega
    have e : scan (x :: r) = scanM (r.length + 1) (x :: r) := rfl
    rw [e, scanM, if_pos h, scanM_fuel _ _ hd]
    unfold join; simp
theorem join_join (xs ys : List UInt8) (t : List UInt8 × Int) : join xs (join ys t) = join (xs ++ ys) t := by
  unfold join; by_cases h : t.2 = 0 <;> simp [h]

/-- The octets in the label that is read so far are no more than the bytes that were read. -/
theorem extract_drop (s : ByteArray) (k : Nat) : (s.extract k s.size).data.toList = s.data.toList.drop k := Lib.extract_to_end s k

def QW (W W' : World) : Prop := ∃ n, W' = W.drewN n
theorem QW.own {W W' : World} (h : QW W W') {base : Nat} {v : Value} {xs : List UInt8} (ho : OwnU8 W base v xs) : OwnU8 W' base v xs := by obtain ⟨n, rfl⟩ := h; exact ho
theorem QW.below {W W' : World} (h : QW W W') {B : Nat} {w : World} (hb : Below B w W) : Below B w W' := by obtain ⟨n, rfl⟩ := h; exact below_drewN hb n
theorem QW.size {W W' : World} (h : QW W W') : W'.heap.size = W.heap.size := by obtain ⟨n, rfl⟩ := h; rfl

def ParsePost (s : ByteArray) (w : World) (e : Ending) (w' : World) : Prop :=
  e = .returned (.tuple #[.string ⟨(parseM s.data.toList).1.toArray⟩, .int .i64 (parseM s.data.toList).2]) ∧ Below w.heap.size w w'
theorem parse_fin {s : ByteArray} {w w' : World} {e : Ending} (l : List UInt8) (er : Int) (h : parseM s.data.toList = (l, er)) (he : e = .returned (.tuple #[.string ⟨l.toArray⟩, .int .i64 er])) (hw : Below w.heap.size w w') : ParsePost s w e w' := by
  unfold ParsePost; rw [h]; exact ⟨he, hw⟩

end Go.Proofs.Ytbnkecmhmcligaa

