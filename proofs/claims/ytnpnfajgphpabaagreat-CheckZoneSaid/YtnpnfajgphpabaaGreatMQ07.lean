import Derived.Deep.RegionLaw
import Derived.Test.YtnpnfajgphpabaaGreatMQ41
import Derived.Test.YtnpnfajgphpabaaGreatMQ03
namespace Go.Proofs.YtnpnfajgphpabaaGreat
set_option maxRecDepth 20000
open Go.RowKit
def hasM (rs : List Rc) (n : Nm) (t : Int) : Bool := rs.any fun r => decide (r.data.ty = t) && sameN r.owner n
theorem qiu {q w : Nm} {s : Nat} (hs : s ≤ q.length) : sameN w (ancN q s) = (underN q w && decide (w.length = s)) := by
 rw [Bool.eq_iff_iff, Bool.and_eq_true, decide_eq_true_eq]
 constructor
 ·intro h
  have hl : w.length = s := by
   have := (qap _ _).1 h
   have := congrArg List.length this
   rw [qfW, qfW, qc4 hs] at this; exact this
  exact ⟨qgh (by rw [hl, qaR]; exact h), hl⟩
 ·rintro ⟨h, rfl⟩
  rw [qaR]; exact qiy h
theorem qdy {rs : List Rc} {q : Nm} {s : Nat} (hs : s ≤ q.length) : (pointM rs q).contains s = hasM rs (ancN q s) 2 := by
 rw [qdB]
 unfold hasM
 congr 1
 funext r
 rw [qiu hs, Bool.and_assoc]
theorem qjd {o n : Nm} {rs : List Rc} (h : ∀ s, o.length < s → s ≤ n.length → hasM rs (ancN n s) 2 = false) : cutM o rs n = none := by
 unfold cutM
 split
 ·rw [List.find?_eq_none]
  intro s hs
  rw [List.mem_range'_1] at hs
  rw [qdy (by omega), h s (by omega) (by omega)]
  simp
 ·rfl
theorem qi5 {o n : Nm} {rs : List Rc} {s : Nat} (hu : underN n o = true) (h1 : o.length < s) (h2 : s ≤ n.length) (hh : hasM rs (ancN n s) 2 = true) (h : ∀ j, o.length < j → j < s → hasM rs (ancN n j) 2 = false) : cutM o rs n = some s := by
 unfold cutM
 rw [if_pos hu, qd5 (o.length + 1) (s - (o.length + 1)) _ (by omega), qd0]
 have e1 : (List.range' (o.length + 1) (s - (o.length + 1))).find? (fun s => (pointM rs n).contains s) = none := by
  rw [List.find?_eq_none]
  intro j hj
  rw [List.mem_range'_1] at hj
  rw [qdy (by omega), h j (by omega) (by omega)]
  simp
 rw [e1]
 have e2 : n.length - o.length - (s - (o.length + 1)) = (n.length - s) + 1 := by omega
 rw [e2, List.range'_succ, show o.length + 1 + (s - (o.length + 1)) = s by omega, List.find?_cons, qdy h2, hh]
 rfl
structure Lk where
 kind : Int
 data : List Dat
 name : Nm
 wild : Bool
 glue : List (Nm × List Dat)
theorem qjn (l : List Rc) (o : Nm) (t : Int) : (ofM l o t = none ∧ l.filter (belM o t) = []) ∨ ∃ y r, canonM (l.filter (belM o t)) = y :: r ∧ ofM l o t = some (stR y (r.takeWhile (belR y))) := by
 unfold ofM
 cases h : canonM (l.filter (belM o t)) with
 | nil =>
  left
  refine ⟨by rw [qa3]; rfl, ?_⟩
  rw [List.eq_nil_iff_forall_not_mem]
  intro y hy
  obtain ⟨b, hb, _⟩ := qdA (l.filter (belM o t)) y hy
  rw [h] at hb; cases hb
 | cons y r =>
  right
  exact ⟨y, r, rfl, by rw [qaM]; rfl⟩
theorem ofM_none {l : List Rc} {o : Nm} {t : Int} : ofM l o t = none ↔ ∀ r ∈ l, belM o t r = false := by
 rcases qjn l o t with ⟨h, e⟩ | ⟨y, r, e, h⟩
 ·rw [h]
  simp only [true_iff]
  intro x hx
  rw [List.filter_eq_nil_iff] at e
  simpa using e x hx
 ·rw [h]
  simp only [reduceCtorEq, false_iff]
  intro hn
  have : l.filter (belM o t) = [] := List.filter_eq_nil_iff.2 (fun x hx => by rw [hn x hx]; simp)
  rw [this] at e
  have := qaD ([] : List Rc)
  rw [e] at this; simp at this
end Go.Proofs.YtnpnfajgphpabaaGreat
namespace Go.Proofs.YtnpnfajgphpabaaGreat
set_option maxRecDepth 20000
open Go.RowKit Go.Shelf
theorem qhQ : ∀ vs : List Value, (∀ x ∈ vs, ∃ s : SlV, x = slEnc s) → ∃ ss : List SlV, ss.map slEnc = vs
 | [], _ => ⟨[], rfl⟩
 | x :: r, h => by
  obtain ⟨s, hs⟩ := h x (by simp)
  obtain ⟨ss, hss⟩ := qhQ r (fun y hy => h y (by simp [hy]))
  exact ⟨s :: ss, by simp [hs, hss]⟩
theorem NmAt.sl {W : World} {v : Value} {xs : Nm} (h : NmAt W v xs) : ∃ s : SlV, v = slEnc s := by
 obtain ⟨⟨a, c, rfl, _⟩, _⟩ := h
 exact ⟨(a, xs.length, c), rfl⟩
theorem qg8 {W : World} {R : Nat} {y0 y1 y2 y3 y4 : Value} (h : W.heap[R]? = some (.cells #[y0, y1, y2, y3, y4] 87)) (x0 x1 x2 x3 x4 : Value) : (set5 W R x0 x1 x2 x3 x4).heap[R]? = some (.cells #[x0, x1, x2, x3, x4] 87) :=
 qak (qak (qak (qak (qak h 0 x0) 1 x1) 2 x2) 3 x3) 4 x4
theorem qiN {α : Type} {T : TypeId} {enc : α → Value} {W : World} {base : Nat} {v : Value} {xs : List α} {R : Nat} {y0 y1 y2 y3 y4 : Value} (h : W.heap[R]? = some (.cells #[y0, y1, y2, y3, y4] 87)) (x0 x1 x2 x3 x4 : Value) (hT : 87 ≠ T) (ho : OwnG T enc W base v xs) : OwnG T enc (set5 W R x0 x1 x2 x3 x4) base v xs :=
 ((((ho.keptB h hT 0 x0).keptB (qak h 0 x0) hT 1 x1).keptB (qak (qak h 0 x0) 1 x1) hT 2 x2).keptB (qak (qak (qak h 0 x0) 1 x1) 2 x2) hT 3 x3).keptB (qak (qak (qak (qak h 0 x0) 1 x1) 2 x2) 3 x3) hT 4 x4
theorem cells5' {W : World} {R : Nat} {T : TypeId} {x0 x1 x2 x3 x4 : Value} (h : W.heap[R]? = some (.cells #[x0, x1, x2, x3, x4] T)) :
 W.cell? ⟨R, 0, none⟩ = some x0 ∧ W.cell? ⟨R, 1, none⟩ = some x1 ∧ W.cell? ⟨R, 2, none⟩ = some x2 ∧ W.cell? ⟨R, 3, none⟩ = some x3 ∧ W.cell? ⟨R, 4, none⟩ = some x4 :=
 ⟨qaT h 0 _ rfl, qaT h 1 _ rfl, qaT h 2 _ rfl, qaT h 3 _ rfl, qaT h 4 _ rfl⟩
theorem qkp {W : World} {R : Nat} {T : TypeId} {cs : Array Value} (h : W.heap[R]? = some (.cells cs T)) :
 W.frozen? ⟨R, 0, none⟩ = false ∧ W.frozen? ⟨R, 1, none⟩ = false ∧ W.frozen? ⟨R, 2, none⟩ = false ∧ W.frozen? ⟨R, 3, none⟩ = false ∧ W.frozen? ⟨R, 4, none⟩ = false :=
 ⟨qa7 h 0, qa7 h 1, qa7 h 2, qa7 h 3, qa7 h 4⟩
theorem qj3 : ElemT 22 85 24 := ⟨Tryz.underlying85, _, _, rfl, rfl, rfl, rfl, rfl⟩
end Go.Proofs.YtnpnfajgphpabaaGreat
