/-
  The worlds of a sort in place: a row of the call's own, all else as it lay.
-/
import Derived.Test.YtfcdajldpnomfaaGreatDoorMQ27
import Derived.Test.YtfcdajldpnomfaaGreatDoorMQ43
import Derived.Shelf.SlSortFuncK.RowK2
import Derived.Shelf.SlicesQ.Reverse
import Derived.Test.YtfcdajldpnomfaaGreatDoorMQ39
import Derived.Lib.AppendStr
namespace Go.Proofs.YtfcdajldpnomfaaGreatDoor
set_option maxRecDepth 20000
open Go.RowKit Go.Shelf Go.Sort Go.Lib
set_option linter.unusedSectionVars false

section
variable {α : Type} [Inhabited α]
/-- The row holds d; whatever else lay in w lies there still. -/
structure SW (enc : α → List Value) (k : Nat) (w : World) (blk off : Nat) (d : Array α) (W : World) : Prop where
  row : HoldsK enc k W blk off d
  rest : w.grownBy W (some blk)
  lt : blk < w.heap.size
theorem SW.refl {enc : α → List Value} {k : Nat} {w : World} {blk off : Nat} {d : Array α} (h : HoldsK enc k w blk off d) (hlt : blk < w.heap.size) : SW enc k w blk off d w := ⟨h, kg_refl w _, hlt⟩
theorem SW.drew {enc : α → List Value} {k : Nat} {w W : World} {blk off : Nat} {d : Array α} (h : SW enc k w blk off d W) : SW enc k w blk off d W.drew := ⟨h.row, kg_trans h.rest (kg_drew W _), h.lt⟩
theorem kg_below {W W' : World} (r : Option Nat) (hb : Below W.heap.size W W') : W.grownBy W' r := ⟨hb.os, hb.tape, hb.output, hb.size, fun k hk _ => hb.block k hk⟩
theorem SW.lt' {enc : α → List Value} {k : Nat} {w W : World} {blk off : Nat} {d : Array α} (h : SW enc k w blk off d W) : blk < W.heap.size := Nat.lt_of_lt_of_le h.lt h.rest.size
theorem SW.below {enc : α → List Value} {k : Nat} {w W W' : World} {blk off : Nat} {d : Array α} (h : SW enc k w blk off d W) (hb : Below W.heap.size W W') : SW enc k w blk off d W' := by
  refine ⟨fun j hj => ?_, kg_trans h.rest (kg_below _ hb), h.lt⟩
  have h1 := h.row j hj
  exact ⟨(hb.cell (p := ⟨blk, off + j, none⟩) h.lt').trans h1.1, (hb.frozen (p := ⟨blk, off + j, none⟩) h.lt').trans h1.2⟩
theorem SW.trans {enc : α → List Value} {k : Nat} {w W W' : World} {blk off : Nat} {d d' : Array α} (h : SW enc k w blk off d W) (g : SW enc k W blk off d' W') : SW enc k w blk off d' W' := ⟨g.row, kg_trans h.rest g.rest, h.lt⟩
theorem kg_setCells (blk : Nat) : ∀ (vs : List Value) (o : Nat) (w : World), w.grownBy (w.setCells blk o vs) (some blk)
  | [], _, w => kg_refl w _
  | v :: r, o, w => by
    rw [World.setCells]
    exact kg_trans (kgrown_set w blk o v) (kg_setCells blk r (o + 1) _)
/-- The exchange's two runs of stores. -/
theorem SW.swap {enc : α → List Value} {k : Nat} {w W : World} {blk off : Nat} {d : Array α} (hk : ∀ x, (enc x).length = k) (h : SW enc k w blk off d W) (i j : Nat) (hi : i < d.size) (hj : j < d.size) :
    SW enc k w blk off (swp d i j) ((W.setCells blk (off + i * k) (enc d[j]!)).setCells blk (off + j * k) (enc d[i]!)) := by
  refine ⟨?_, kg_trans (kg_trans h.rest (kg_setCells _ _ _ _)) (kg_setCells _ _ _ _), h.lt⟩
  have e : (W.setCells blk (off + i * k) (enc d[j]!)).setCells blk (off + j * k) (enc d[i]!) = putRowK enc k W blk off (swp d i j) := by
    conv => lhs; rw [← putRowK_self enc k W blk off d h.row]
    exact putRowK_swp enc k hk W blk off d i j hi hj
  rw [e]
  exact holdsK_putRowK enc k W blk off d _ h.row (by rw [size_swp])
theorem holds_setCells_c {W : World} {blk off : Nat} {F : Array Value} (h : Holds id W blk off F) (s : Nat) (vs : List Value) (hs : s + vs.length ≤ F.size) : Holds id (W.setCells blk (off + s) vs) blk off (setMany F s vs) := by
  have e : W.setCells blk (off + s) vs = putRow id W blk off (setMany F s vs) := by
    conv => lhs; rw [← putRow_self id W blk off F h]
    exact setCells_putRow _ _ _ _ _ _ hs
  rw [e]
  exact holds_putRow id W blk off F _ h (by rw [size_setMany])
/-- The loads and stores of an exchange. -/
theorem SW.load {enc : α → List Value} {k : Nat} {w W : World} {blk off : Nat} {d : Array α} (P : Program) (hk : ∀ x, (enc x).length = k) (h : SW enc k w blk off d W) (i : Nat) (hi : i < d.size) :
    Sem.run P (loadCellsFrom ⟨blk, off + i * k, none⟩ 0 k #[]) W = .ok (enc d[i]!).toArray W := run_loadCellsFrom_list P _ _ _ k (hk _) (HoldsK.cells h.row hk hi)
theorem bnd_k {n x k : Nat} (hx : x < n) : x * k + k ≤ n * k := by
  have := Nat.mul_le_mul_right k (show x + 1 ≤ n from hx); rwa [Nat.add_mul, Nat.one_mul] at this
theorem SW.store1 {enc : α → List Value} {k : Nat} {w W : World} {blk off : Nat} {d : Array α} (P : Program) (hk : ∀ x, (enc x).length = k) (h1 : ∀ x, ∀ v ∈ enc x, v.oneCell' = true) (h : SW enc k w blk off d W) (i : Nat) (hi : i < d.size) (x : α) :
    Sem.run P (storeCells ⟨blk, off + i * k, none⟩ (enc x) 0) W = .ok () (W.setCells blk (off + i * k) (enc x)) := stores_of_holds P h.row (i * k) _ (by rw [hk, size_flatK]; exact bnd_k hi) (h1 _)
theorem SW.store2 {enc : α → List Value} {k : Nat} {w W : World} {blk off : Nat} {d : Array α} (P : Program) (hk : ∀ x, (enc x).length = k) (h1 : ∀ x, ∀ v ∈ enc x, v.oneCell' = true) (h : SW enc k w blk off d W) (i j : Nat) (hi : i < d.size) (hj : j < d.size) (x y : α) :
    Sem.run P (storeCells ⟨blk, off + j * k, none⟩ (enc y) 0) (W.setCells blk (off + i * k) (enc x)) = .ok () ((W.setCells blk (off + i * k) (enc x)).setCells blk (off + j * k) (enc y)) :=
  stores_of_holds P (holds_setCells_c h.row (i * k) _ (by rw [hk, size_flatK]; exact bnd_k hi)) (j * k) _ (by rw [hk, size_setMany, size_flatK]; exact bnd_k hj) (h1 _)
end
end Go.Proofs.YtfcdajldpnomfaaGreatDoor

/-
  Names as lists of labels: reading a name (plain facts).
-/
namespace Go.Proofs.YtfcdajldpnomfaaGreatDoor
set_option maxRecDepth 20000
open Go.RowKit Go.Shelf

def readN : Nm → Nm × Int
  | [] => ([], 0)
  | p :: r => if (parseM p).2 = 0 then (if (readN r).2 = 0 then ((parseM p).1 :: (readN r).1, 0) else ([], (readN r).2)) else ([], (parseM p).2)
/-- Is there a dot at the end? -/
def wholeN (ps : Nm) : Bool := decide (ps.getLast? = some [])
def partsN (ps : Nm) : Nm := if wholeN ps then ps.dropLast else ps
def endN (ps : Nm) (o : Nm) : Nm × Int :=
  if (readN (partsN ps)).2 = 0 then
    (if checkN (if wholeN ps then (readN (partsN ps)).1 else (readN (partsN ps)).1 ++ o) = 0 then (if wholeN ps then (readN (partsN ps)).1 else (readN (partsN ps)).1 ++ o, 0)
     else ([], checkN (if wholeN ps then (readN (partsN ps)).1 else (readN (partsN ps)).1 ++ o)))
  else ([], (readN (partsN ps)).2)
def parseN (s : List UInt8) (o : Nm) : Nm × Int :=
  if s = [64] then (o, 0) else if s = [46] then ([], 0) else if s = [] then ([], 8)
  else if (splitM s).2 = 0 then endN (splitM s).1 o else ([], (splitM s).2)

theorem readN_snoc (a : Nm) (x : List UInt8) (h : (readN a).2 = 0) : readN (a ++ [x]) = if (parseM x).2 = 0 then ((readN a).1 ++ [(parseM x).1], 0) else ([], (parseM x).2) := by
  induction a with
  | nil => simp only [List.nil_append, readN]; split <;> simp
  | cons p r ih =>
    simp only [List.cons_append, readN] at h ⊢
    by_cases e : (parseM p).2 = 0
    · rw [if_pos e] at h ⊢
      by_cases e2 : (readN r).2 = 0
      · rw [if_pos e, if_pos e2, ih e2]
        split <;> simp_all
      · rw [if_neg e2] at h; exact absurd h e2
    · rw [if_neg e] at h; exact absurd h e
theorem readN_stop {a p : Nm} (h : p <+: a) (hp : (readN p).2 ≠ 0) : readN a = ([], (readN p).2) := by
  obtain ⟨t, rfl⟩ := h
  induction p with
  | nil => simp [readN] at hp
  | cons x r ih =>
    simp only [List.cons_append, readN] at hp ⊢
    by_cases e : (parseM x).2 = 0
    · rw [if_pos e] at hp ⊢; rw [if_pos e]
      by_cases e2 : (readN r).2 = 0
      · rw [if_pos e2] at hp; simp at hp
      · have := ih e2; rw [this, if_neg e2, if_neg e2]
    · rw [if_neg e, if_neg e]
theorem checkL_mem {n : Nm} (h : checkL n = 0) : ∀ x ∈ n, checkLabelM x = 0 := by
  induction n with
  | nil => simp
  | cons y r ih =>
    simp only [checkL] at h
    by_cases e : checkLabelM y = 0
    · rw [if_pos e] at h; intro x hx; rcases List.mem_cons.1 hx with rfl | hx
      · exact e
      · exact ih h x hx
    · rw [if_neg e] at h; exact absurd h e
theorem checkN_L {n : Nm} (h : checkN n = 0) : checkL n = 0 := by
  unfold checkN at h; by_cases e : checkL n = 0
  · exact e
  · rw [if_neg e] at h; exact h
theorem checkLabelM_ok {l : List UInt8} (h : checkLabelM l = 0) : l ≠ [] ∧ l.length ≤ 63 := by
  unfold checkLabelM at h
  by_cases e : l = []
  · rw [if_pos e] at h; cases h
  · rw [if_neg e] at h
    by_cases e2 : 63 < l.length
    · rw [if_pos e2] at h; cases h
    · exact ⟨e, by omega⟩
theorem readN_text {n : Nm} (h : checkL n = 0) : readN (n.map textL) = (n, 0) := by
  induction n with
  | nil => rfl
  | cons x r ih =>
    have hx := checkL_mem h x (by simp)
    have hr : checkL r = 0 := by simp only [checkL] at h; rw [if_pos hx] at h; exact h
    have hp : parseM (textL x) = (x, 0) := by rw [parse_text, if_pos hx]
    simp only [List.map_cons, readN, hp, ih hr, if_true]
theorem joinL_flat : ∀ (n : Nm), n ≠ [] → joinL (n ++ [[]]) = n.flatMap fun x => textL x ++ [46] := by
  intro n hn
  rw [joinL_snoc hn]
  show joinL n ++ [46] ++ textL [] = _
  have ht : textL [] = [] := rfl
  rw [ht, List.append_nil]
  induction n with
  | nil => exact absurd rfl hn
  | cons x r ih =>
    by_cases hr : r = []
    · subst hr; simp [joinL]
    · have := ih hr
      rw [List.flatMap_cons, ← this]
      cases r with
      | nil => exact absurd rfl hr
      | cons y t => simp [joinL, List.append_assoc]

end Go.Proofs.YtfcdajldpnomfaaGreatDoor

/-
  Contract of name.readLabels.
-/
namespace Go.Proofs.YtfcdajldpnomfaaGreatDoor
set_option maxRecDepth 20000
open Go.RowKit Go.Shelf

def ReadNPost (ps : Nm) (w : World) (e : Ending) (w' : World) : Prop := ∃ v', e = .returned (.tuple #[v', .int .i64 (readN ps).2]) ∧ OwnG 9 strV w' w.heap.size v' (readN ps).1 ∧ Below w.heap.size w w'
theorem readN_fin {ps : Nm} {w w' : World} {e : Ending} {v : Value} (l : Nm) (er : Int) (h : readN ps = (l, er)) (he : e = .returned (.tuple #[v, .int .i64 er])) (ho : OwnG 9 strV w' w.heap.size v l) (hw : Below w.heap.size w w') : ReadNPost ps w e w' := by
  unfold ReadNPost; rw [h]; exact ⟨v, he, ho, hw⟩

end Go.Proofs.YtfcdajldpnomfaaGreatDoor

/-
  Names as lists of labels: plain facts for the statements of layer 2: words and back, relative words, another end, one ahead, where two meet.
-/
namespace Go.Proofs.YtfcdajldpnomfaaGreatDoor
set_option maxRecDepth 20000
open Go.RowKit Go.Shelf

theorem octetW_first (c : UInt8) (r : List UInt8) : octetW c ++ r ≠ [64] ∧ octetW c ++ r ≠ [46] ∧ octetW c ++ r ≠ [] := by
  by_cases hsp : specialU c = true
  · rw [octetW_special hsp]; simp
  have hsp0 : specialU c = false := by simpa using hsp
  by_cases h2 : (c.toNat : Int) < 33 ∨ 126 < (c.toNat : Int)
  · rw [octetW_esc hsp0 h2]; simp [octetEsc]
  · rw [octetW_plain hsp0 (by omega) (by omega)]
    have h46 : c ≠ 46 := by intro e; subst e; revert hsp0; decide
    have h64 : c ≠ 64 := by intro e; subst e; revert hsp0; decide
    refine ⟨?_, ?_, by simp⟩
    · intro e; simp at e; exact h64 e.1
    · intro e; simp at e; exact h46 e.1
theorem textL_first {x : List UInt8} (h : x ≠ []) (r : List UInt8) : textL x ++ r ≠ [64] ∧ textL x ++ r ≠ [46] ∧ textL x ++ r ≠ [] := by
  cases x with
  | nil => exact absurd rfl h
  | cons c x => rw [textL_cons, List.append_assoc]; exact octetW_first c _
theorem joinL_first {n : Nm} (hn : n ≠ []) (hx : ∀ x ∈ n, x ≠ []) : joinL n ≠ [64] ∧ joinL n ≠ [46] ∧ joinL n ≠ [] := by
  cases n with
  | nil => exact absurd rfl hn
  | cons x r => exact textL_first (hx x (by simp)) _
theorem label_ne {n : Nm} (h : checkL n = 0) : ∀ x ∈ n, x ≠ [] := fun x hx => (checkLabelM_ok (checkL_mem h x hx)).1
theorem joinL_snoc_ne {n : Nm} (hn : n ≠ []) (hx : ∀ x ∈ n, x ≠ []) (y : List UInt8) : joinL (n ++ [y]) ≠ [64] ∧ joinL (n ++ [y]) ≠ [46] ∧ joinL (n ++ [y]) ≠ [] := by
  cases n with
  | nil => exact absurd rfl hn
  | cons x r => exact textL_first (hx x (by simp)) _

/-- A name's words are that name again. -/
theorem parse_textN {n : Nm} (h : checkN n = 0) (o : Nm) : parseN (textN n) o = (n, 0) := by
  have hL := checkN_L h
  by_cases hn : n = []
  · subst hn; rfl
  have ht : textN n = joinL (n ++ [[]]) := by unfold textN; rw [if_neg hn, joinL_flat n hn]
  obtain ⟨h1, h2, h3⟩ := joinL_snoc_ne hn (label_ne hL) []
  rw [ht]
  unfold parseN
  rw [if_neg h1, if_neg h2, if_neg h3, split_join (by simp)]
  simp only [if_true, List.map_append, List.map_cons, List.map_nil]
  have hw : wholeN (n.map textL ++ [textL []]) = true := by unfold wholeN; simp [textL]
  have hp : partsN (n.map textL ++ [textL []]) = n.map textL := by unfold partsN; rw [hw]; simp
  unfold endN
  rw [hw, hp, readN_text hL]
  simp [h]
theorem textN_dot {n : Nm} (hn : n ≠ []) : textN n = joinL n ++ [46] := by
  have ht : textN n = joinL (n ++ [[]]) := by unfold textN; rw [if_neg hn, joinL_flat n hn]
  rw [ht, joinL_snoc hn]
  simp [textL]
/-- Without the dot at the end: put ahead of the origin. -/
theorem parse_joinN {n : Nm} (hn : n ≠ []) (h : checkN n = 0) (o : Nm) : parseN (joinL n) o = (if checkN (n ++ o) = 0 then n ++ o else [], checkN (n ++ o)) := by
  have hL := checkN_L h
  obtain ⟨h1, h2, h3⟩ := joinL_first hn (label_ne hL)
  unfold parseN
  rw [if_neg h1, if_neg h2, if_neg h3, split_join hn]
  have hw : wholeN (n.map textL) = false := by
    unfold wholeN
    apply decide_eq_false
    intro e
    obtain ⟨r, x, rfl⟩ : ∃ r x, n = r ++ [x] := ⟨n.dropLast, n.getLast hn, (List.dropLast_concat_getLast hn).symm⟩
    simp at e
    exact label_ne hL x (by simp) (textL_nil_iff e)
  have hp : partsN (n.map textL) = n.map textL := by unfold partsN; rw [hw]; simp
  simp only [if_true]
  unfold endN
  rw [hw, hp, readN_text hL]
  simp only [if_true, Bool.false_eq_true, if_false]
  by_cases hc : checkN (n ++ o) = 0
  · rw [if_pos hc, if_pos hc, hc]
  · rw [if_neg hc, if_neg hc]
theorem checkN_app {n o : Nm} (h : checkL n = 0) (h2 : checkL o = 0) (h3 : checkN (n ++ o) ≠ 0) : checkN (n ++ o) = 3 := by
  unfold checkN at h3 ⊢
  rw [checkL_append, if_pos h, if_pos h2] at h3 ⊢
  by_cases e : 255 < lenN (n ++ o)
  · rw [if_pos e]
  · rw [if_neg e] at h3; exact absurd rfl h3

/-! ### another end -/
theorem checkL_len : ∀ (a b : Nm), a.map List.length = b.map List.length → checkL a = checkL b
  | [], [] => fun _ => rfl
  | [], _ :: _ => by intro h; simp at h
  | _ :: _, [] => by intro h; simp at h
  | x :: r, y :: t => by
    intro h
    simp only [List.map_cons, List.cons.injEq] at h
    have hc : checkLabelM x = checkLabelM y := by
      unfold checkLabelM
      by_cases hx : x = []
      · have : y = [] := List.eq_nil_of_length_eq_zero (by rw [← h.1, hx]; rfl)
        rw [if_pos hx, if_pos this]
      · have : y ≠ [] := by intro e; apply hx; exact List.eq_nil_of_length_eq_zero (by rw [h.1, e]; rfl)
        rw [if_neg hx, if_neg this, h.1]
    simp only [checkL, hc, checkL_len r t h.2]
theorem lenN_len (a b : Nm) (h : a.map List.length = b.map List.length) : lenN a = lenN b := by
  unfold lenN
  have : ∀ c : Nm, (c.map fun x => 1 + x.length) = (c.map List.length).map fun k => 1 + k := fun c => by simp
  rw [this a, this b, h]
theorem checkN_len {a b : Nm} (h : a.map List.length = b.map List.length) : checkN a = checkN b := by
  unfold checkN; rw [checkL_len a b h, lenN_len a b h]
theorem foldL_len (l : List UInt8) : (foldL l).length = l.length := by simp [foldL]
theorem foldN_lens {a b : Nm} (h : foldN a = foldN b) : a.map List.length = b.map List.length := by
  have : ∀ c : Nm, c.map List.length = (foldN c).map List.length := fun c => by
    unfold foldN; rw [List.map_map]; apply List.map_congr_left; intro l _; exact (foldL_len l).symm
  rw [this a, this b, h]
theorem foldN_append (a b : Nm) : foldN (a ++ b) = foldN a ++ foldN b := by simp [foldN]
/-- What stands ahead of f in n, f at its end, is n but for how it is written. -/
theorem under_parts {n f : Nm} (h : underN n f = true) : foldN (n.take (n.length - f.length) ++ f) = foldN n := by
  have hl := underN_len h
  unfold underN at h
  simp only [Bool.and_eq_true, decide_eq_true_eq, sameN_iff] at h
  rw [foldN_append, ← h.2, ← foldN_append, List.take_append_drop]
theorem swap_back {n f t : Nm} (h : (swapN n f t).2 = 0) (hc : checkN n = 0) :
    underN (swapN n f t).1 t = true ∧ (swapN (swapN n f t).1 t f).2 = 0 ∧ sameN (swapN (swapN n f t).1 t f).1 n = true := by
  unfold swapN at h
  by_cases hu : underN n f = true
  · rw [if_pos hu] at h
    by_cases hk : checkN (n.take (n.length - f.length) ++ t) = 0
    · have hs : swapN n f t = (n.take (n.length - f.length) ++ t, 0) := by unfold swapN; rw [if_pos hu, if_pos hk]
      rw [hs]
      have hut : underN (n.take (n.length - f.length) ++ t) t = true := (underN_iff _ _).2 ⟨foldN (n.take (n.length - f.length)), foldN_append _ _⟩
      have hp := under_parts hu
      have htk : (n.take (n.length - f.length) ++ t).take ((n.take (n.length - f.length) ++ t).length - t.length) = n.take (n.length - f.length) := by
        rw [List.length_append, Nat.add_sub_cancel]; exact List.take_left
      have hck : checkN (n.take (n.length - f.length) ++ f) = 0 := by rw [checkN_len (foldN_lens hp)]; exact hc
      have hb : swapN (n.take (n.length - f.length) ++ t) t f = (n.take (n.length - f.length) ++ f, 0) := by
        unfold swapN; rw [if_pos hut, htk, if_pos hck]
      simp only [hb]
      exact ⟨hut, trivial, (sameN_iff _ _).2 hp⟩
    · rw [if_neg hk] at h; simp at h
  · rw [if_neg hu] at h; simp at h

/-! ### one ahead -/
theorem under_child (l : List UInt8) (n : Nm) : underN (l :: n) n = true := (underN_iff _ _).2 ⟨[foldL l], rfl⟩
theorem not_under_child (l : List UInt8) (n : Nm) : underN n (l :: n) = false := by
  cases h : underN n (l :: n) with
  | false => rfl
  | true => have := underN_len h; simp at this; omega
theorem cmpR_more : ∀ (p : Nm) (l : List UInt8), cmpR p (p ++ [l]) = -1
  | [], _ => rfl
  | x :: r, l => by
    simp only [List.cons_append, cmpR]
    rw [if_pos ((compareM_zero x x).2 rfl)]; exact cmpR_more r l
theorem compare_child (l : List UInt8) (n : Nm) : compareN n (l :: n) = -1 := by
  unfold compareN; rw [List.reverse_cons]; exact cmpR_more _ _

/-! ### where two names meet -/
theorem sharedR_le : ∀ p q : Nm, sharedR p q ≤ p.length ∧ sharedR p q ≤ q.length
  | [], _ => by simp [sharedR]
  | _ :: _, [] => by simp [sharedR]
  | x :: r, y :: t => by
    have := sharedR_le r t
    simp only [sharedR]; split <;> simp <;> omega
theorem sharedR_fold : ∀ p q : Nm, foldN (p.take (sharedR p q)) = foldN (q.take (sharedR p q))
  | [], _ => by simp [sharedR]
  | _ :: _, [] => by simp [sharedR]
  | x :: r, y :: t => by
    have ih := sharedR_fold r t
    simp only [sharedR]
    by_cases e : compareM x y = 0
    · rw [if_pos e]; simp only [List.take_succ_cons, foldN, List.map_cons] at ih ⊢
      rw [(compareM_zero x y).1 e, ih]
    · rw [if_neg e]; simp
theorem sharedR_max : ∀ (p q : Nm) (k : Nat), k ≤ p.length → k ≤ q.length → foldN (p.take k) = foldN (q.take k) → k ≤ sharedR p q
  | _, _, 0 => by intros; omega
  | [], _, _ + 1 => by intro h; simp at h
  | _ :: _, [], _ + 1 => by intro _ h; simp at h
  | x :: r, y :: t, k + 1 => by
    intro h1 h2 h3
    simp only [List.take_succ_cons, foldN, List.map_cons, List.cons.injEq] at h3
    have ih := sharedR_max r t k (by simpa using h1) (by simpa using h2) h3.2
    simp only [sharedR]
    rw [if_pos ((compareM_zero x y).2 h3.1)]; omega
theorem take_reverse_drop (p : Nm) (k : Nat) : p.reverse.take k = (p.drop (p.length - k)).reverse := by
  rw [List.take_reverse]
theorem foldN_rev_inj {a b : Nm} (h : foldN a.reverse = foldN b.reverse) : foldN a = foldN b := by
  rw [foldN_reverse, foldN_reverse] at h; exact List.reverse_inj.1 h
theorem common_len (a b : Nm) : (commonN a b).length = sharedR a.reverse b.reverse := by
  have := sharedR_le a.reverse b.reverse
  unfold commonN; rw [List.length_drop]; simp at this; omega
theorem common_under_a (a b : Nm) : underN a (commonN a b) = true := by
  have := sharedR_le a.reverse b.reverse
  rw [underN_iff]; unfold commonN
  refine ⟨foldN (a.take (a.length - sharedR a.reverse b.reverse)), ?_⟩
  rw [← foldN_append, List.take_append_drop]
theorem common_under_b (a b : Nm) : underN b (commonN a b) = true := by
  have hl := sharedR_le a.reverse b.reverse
  simp only [List.length_reverse] at hl
  have h := sharedR_fold a.reverse b.reverse
  rw [take_reverse_drop, take_reverse_drop] at h
  have h2 := foldN_rev_inj h
  rw [underN_iff]; unfold commonN
  refine ⟨foldN (b.take (b.length - sharedR a.reverse b.reverse)), ?_⟩
  rw [h2, ← foldN_append, List.take_append_drop]
/-- What is below both is not deeper: by one label more of a. -/
theorem common_deepest (a b : Nm) (k : Nat) (hk : k ≤ a.length) (h : underN b (a.drop (a.length - k)) = true) : k ≤ (commonN a b).length := by
  rw [common_len]
  have hl := underN_len h
  rw [List.length_drop] at hl
  have hkb : k ≤ b.length := by omega
  unfold underN at h
  simp only [Bool.and_eq_true, decide_eq_true_eq, sameN_iff] at h
  have e : (a.drop (a.length - k)).length = k := by rw [List.length_drop]; omega
  rw [e] at h
  refine sharedR_max _ _ _ (by simpa using hk) (by simpa using hkb) ?_
  rw [take_reverse_drop, take_reverse_drop, foldN_reverse, foldN_reverse, h.2]

end Go.Proofs.YtfcdajldpnomfaaGreatDoor

/-
  Contract of name.Text.
-/
namespace Go.Proofs.YtfcdajldpnomfaaGreatDoor
set_option maxRecDepth 20000
open Go.RowKit Go.Shelf

theorem wplIn_append_str {F : Fence} {d : Nat} {ops : Array Oper} {rest : List Oper} {o : Oper} {a : Act} {Q : Exit → Act → World → Prop} (W : World) (hgd : o.guard = none) (sl x : Operand)
    (ho : o.op = .call { callee := .builtin .append, args := #[sl, x], argTypes := #[27, 9] })
    (base : Nat) (v : Value) (xs : List UInt8) (hs : a.eval sl = v) (hown : OwnG 5 bv W base v xs) (s : ByteArray) (hx : a.eval x = .string s)
    (hbase : base ≤ W.heap.size) (hk : xs.length + s.size ≤ 140737488355328)
    (h : ∀ v' w', OwnG 5 bv w' base v' (xs ++ s.data.toList) → W.grownBy w' v.ownBlock → wpListIn F d Tryz.prog ops Q rest (a.put o.dst v') w') : wpListIn F d Tryz.prog ops Q (o :: rest) a W := by
  obtain ⟨i0, hi, hz0, hz1, hz2⟩ := info_parts info_u8
  refine wpListIn_plain hgd fun K hK => ?_
  obtain ⟨v', w', hr, h2, h3, h4⟩ := Lib.run_append_own_string (P := Tryz.prog) (w := W) base 27 9 o.type 5 i0 Tryz.underlying27 Tryz.underlying9 hi hz0 hz1 hz2 v xs.length (xs.map bv) hown s (by unfold maxLen; omega) hk hbase
  unfold Oper.wpIn
  refine ⟨?_, ?_⟩
  · simp [Oper.about, ho, resolve, Target.leads, Sem.run_pure]
  · rw [Oper.semAt_plain F _ _ (by rw [ho]; intro c hc'; cases hc')]
    simp [execOp, ho, resolve, invoke, builtin, hs, hx, hr, Result.andThen]
    refine hK _ _ (h v' w' ?_ h3)
    unfold OwnG
    rw [List.length_append, List.map_append, size_data]
    exact h2

def textF (n : Nm) : List UInt8 := n.flatMap fun x => textL x ++ [46]
theorem textF_snoc (n : Nm) (x : List UInt8) : textF (n ++ [x]) = textF n ++ textL x ++ [46] := by simp [textF]
theorem textN_eq {n : Nm} (h : n ≠ []) : textN n = textF n := by unfold textN; rw [if_neg h]; rfl
theorem textF_le {xs : Nm} (h : NmOK xs) (pre : List (Fin xs.length)) : (textF (atN xs pre)).length ≤ pre.length * 4194305 := by
  induction pre with
  | nil => simp [textF, atN]
  | cons j r ih =>
    have h1 := h.get j.val j.isLt
    have h2 := textL_le xs[j]
    simp only [textF, atN, List.map_cons, List.flatMap_cons, List.length_append, List.length_cons, List.length_nil, Fin.getElem_fin] at ih h2 ⊢
    omega

section
attribute [local go_sem] Oper.semAt_some
set_option maxRecDepth 100000 in
set_option maxHeartbeats 4000000 in
theorem name_Text (v : Value) (xs : Nm) (w : World) (hA : StrsAt w v xs) (hk : NmOK xs) :
    Calls Tryz.prog 38 #[v] w fun e w' => e = .returned (.string ⟨(textN xs).toArray⟩) ∧ Below w.heap.size w w' := by
  obtain ⟨a, c, rfl, hx⟩ := id hA
  have hl := hk.1
  have hrow := hA.row_lt
  refine (callsIn_wide (n := 5)).1 ?_
  refine callsIn_of_wp_marks Tryz.func38 rfl trivial ?_ rfl
  simp only [Tryz.ntmps38, List.size_toArray, List.length_cons, List.length_nil, Nat.reduceAdd, Nat.reduceSub, Array.replicate_succ, Array.replicate_zero, List.push_toArray, List.append_toArray, List.nil_append, List.cons_append]
  by_cases h0 : xs = []
  · have h00 : xs.length = 0 := by rw [h0]; rfl
    have ht : textN xs = [46] := by unfold textN; rw [if_pos h0]
    have HT := Lib.hid ht
    rw [h00]
    clear h0 ht
    gi_wp2
    exact ⟨_, results_tmp rfl _ _ _, by rw [HT.out]; rfl, Below.refl _ _⟩
  have HT := Lib.hid (textN_eq h0)
  have hne : ((xs.length : Int) == 0) = false := by
    have : xs.length ≠ 0 := fun e => h0 (List.eq_nil_of_length_eq_zero e)
    simp; omega
  clear h0
  gi_wp2_with (refine ⟨trivial, ?_⟩; gi_at_call 62; refine (callsIn_wide.2 (name_labels _ _ _ _)).mono ?_; rintro e w' ⟨rfl, rfl⟩)
  obtain ⟨W0, hW0⟩ : ∃ W0, ((w.alloc (.cells #[.slice none 0 0] 27)).alloc (.cells #[.slice a xs.length c] 23)) = W0 := ⟨_, rfl⟩
  have bS : Boxed W0 (w.heap.size + 1) 23 (.slice a xs.length c) := by
    have := Boxed.new (w.alloc (.cells #[.slice none 0 0] 27)) 23 (.slice a xs.length c)
    rw [World.size_alloc] at this
    rw [← hW0]; exact this
  have hsz : W0.heap.size = w.heap.size + 2 := by rw [← hW0]; simp
  have hB0 : Below w.heap.size w W0 := by rw [← hW0]; exact ((Below.refl _ w).alloc (Nat.le_refl _) _).alloc (by simp) _
  have hI0 : GBox 5 27 bv w.heap.size w.heap.size [] W0 := by rw [← hW0]; exact ⟨_, (Boxed.new w _ _).alloc _, OwnG.nil _ _⟩
  rw [hW0]
  have HZ := Lib.hid hsz; clear hsz hW0
  refine wpIn_rangeFunc_ownG rfl (by omega) (gf := 104) (lb := #[.pointer (some ⟨w.heap.size + 1, 0, none⟩)]) rfl trivial (enters_of Tryz.func104 (by kernel_rfl) rfl)
    (labels_stops _ (by omega) (w.heap.size + 1) (.slice a xs.length c) xs (by unfold maxLen; omega) W0 (by rw [HZ.out]; omega) bS.cell (hA.below hB0)) keepN_t (keepN_b (by rw [HZ.out]; omega) (fun g e => by have := hrow g e; rw [HZ.out]; omega)) (Below.refl _ _) (fun _ => rfl)
    (fun pre W => GBox 5 27 bv w.heap.size w.heap.size (textF (atN xs pre)) W ∧ Below w.heap.size w W ∧ Boxed W (w.heap.size + 1) 23 (.slice a xs.length c))
    (fun _ _ _ => False)
    (OwnFrom.and (Own.from (gBox_own w.heap.size w.heap.size (fun pre => textF (atN xs pre))) _) (OwnFrom.and (ownFrom_below (Nat.le_refl _) (by rw [HZ.out]; omega)) (Own.from (boxed_own _ _ _) _)))
    (fun _ _ _ _ _ hs _ _ => hs)
    ⟨hI0, hB0, bS⟩
    (fun j => { tmps := #[.slice a xs.length c, undef, .string ⟨#[]⟩, .pointer (some ⟨w.heap.size, 0, none⟩), undef, .string ⟨xs[j].toArray⟩, .slice a xs.length c, .int .i64 xs.length, .bool false, .slice a xs.length c, .func (.func 104) #[] #[.pointer (some ⟨w.heap.size + 1, 0, none⟩)], .int .i64 (j.val : Int), .string ⟨xs[j].toArray⟩, undef, undef, undef, undef, undef, undef, undef, undef, undef], defers := [] }) ?assign ?body ?done ?stop
  case assign =>
    intro l x W K hK
    unfold idxV strV
    gi_wp2
    exact hK
  case body =>
    rintro l pre x W ⟨⟨u, hv, hown⟩, hB, hS⟩ hlt
    have hc := hv.cell
    have hple := textF_le hk pre
    have hx1 : xs[x].length ≤ 1048576 := hk.get x.val x.isLt
    obtain ⟨sx, hsx0, hsxz, hsxv⟩ := str_of xs[x]
    have hF := fun W => label_Text sx W (by omega)
    rw [hsx0] at hF
    rw [str_at hsxv]
    have hsn : textF (atN xs (pre ++ [x])) = textF (atN xs pre) ++ textL xs[x] ++ [46] := by rw [atN_snoc, textF_snoc]
    have HSN := Lib.hid hsn
    have htl := textL_le xs[x]
    clear hsx0 hsxz hsxv hsn
    generalize textF (atN xs pre) = fs at *
    obtain ⟨sy, hsy0, hsyz, _⟩ := str_of (textL xs[x])
    rw [show (⟨(textL xs[x]).toArray⟩ : ByteArray) = sy from ba_ext (by rw [hsy0])] at hF
    rw [← hsy0] at HSN
    have hfb : fs.length + sy.size + 1 ≤ 140737488355328 := by omega
    clear hsy0 hsyz htl hple hx1
    gi_wp2
    have kd : KeepsOthers W W.drew := KeepsOthers.drew W
    have bd : Below w.heap.size W W.drew := (Below.refl _ W).drew
    have kbd : KeepN (w.heap.size + 1) (.slice a xs.length c) W W.drew := ⟨rfl, fun _ _ => rfl⟩
    have hvd : Boxed W.drew w.heap.size 27 u := hv
    have hownd : OwnG 5 bv W.drew w.heap.size u fs := hown
    have hSd : Boxed W.drew (w.heap.size + 1) 23 (.slice a xs.length c) := hS
    clear hc
    refine wpIn_region_orders [[0, 1, 2, 3, 4], [1, 0, 2, 3, 4], [1, 2, 0, 3, 4]] follows_mixed (by kernel_rfl) ?_
    generalize W.drew = Wd at *
    have hc := hvd.cell
    have hbase : w.heap.size ≤ Wd.heap.size := by have := hB.size; have := bd.size; omega
    refine ⟨?_, ?_, ?_, trivial⟩
    all_goals
      simp only [List.filterMap_cons, List.filterMap_nil, List.getElem?_toArray, List.getElem?_cons_zero, List.getElem?_cons_succ]
      change wpListIn _ _ _ _ _ [_, _, _, _, _] _ _
      gi_wp2_with (first | (gi_at_builtin; refine wplIn_append_str w2 rfl (.tmp 13) (.tmp 15) rfl w.heap.size u fs rfl hown2 sy rfl hbase2 (by omega) ?_; intro v' w1 hown' hg'; obtain ⟨a', n', c', rfl⟩ : ∃ a n c, v' = .slice a n c := (by obtain ⟨a, c, e⟩ := hown'.shape; exact ⟨_, _, _, e⟩); obtain ⟨hv1, ho2, hk2, hbb2, hs2⟩ := gboxed_appends (by decide) hv2 hown2 (by omega) hown' hg'; have hc1 := hv1.cell; have hf1 := hv1.frozen; have hv3 := hv1.set (.slice a' n' c'); have hown3 : OwnU8 (w1.setCell ⟨w.heap.size, 0, none⟩ (.slice a' n' c')) w.heap.size (.slice a' n' c') (fs ++ sy.data.toList) := OwnG.kept hown' (grownBy_setCell' w1 _ _) (.inr (hv1.not_row (by decide) hown').symm); have hc3 := hv3.cell; have hbase3 := Nat.le_trans hbase2 hk2.size) | (gi_at_builtin; refine wplIn_append_u8 (w1.setCell ⟨w.heap.size, 0, none⟩ (.slice a' n' c')) rfl (.tmp 17) (.tmp 18) rfl w.heap.size (.slice a' n' c') (fs ++ sy.data.toList) rfl hown3 [.int .u8 46] [46] rfl 1 1 (by simp [Act.eval]) rfl hbase3 (by rw [List.length_append, size_data]; simp; omega) ?_; intro v4 w4 hown4 hg4; obtain ⟨a4, n4, c4, rfl⟩ := hown4.shape; obtain ⟨hv5, ho5, hk5, hbb5, hs5⟩ := gboxed_appends (enc := bv) (by decide) hv3 hown3 (by omega) hown4 hg4; have hc5 := hv5.cell; have hf5 := hv5.frozen) | (refine ⟨trivial, ?_⟩; gi_at_call 79; refine (CallsIn.inRound l (callsIn_wide.2 (hF _))).mono ?_; rintro e w2 ⟨rfl, hb2⟩; have hv2 : Boxed w2 w.heap.size 27 u := (hb2.block _ hvd.lt).trans hvd; have hS2 : Boxed w2 (w.heap.size + 1) 23 (.slice a xs.length c) := (hb2.block _ hSd.lt).trans hSd; have hown2 := hownd.below hb2; have hc2 := hv2.cell; have hbase2 : w.heap.size ≤ w2.heap.size := Nat.le_trans hbase hb2.size))
      have kB := hs2 (w.heap.size + 1) 23 (by decide) hS2.lt (by omega) _ hS2
      have hS3 := boxed_keep kB hS2
      have kB5 := hs5 (w.heap.size + 1) 23 (by decide) hS3.lt (by omega) _ hS3
      have ko : KeepsOthers Wd w2 := ⟨hb2.size, fun k o hk _ => (hb2.block k (Array.getElem?_eq_some_iff.1 hk).1).trans hk⟩
      refine ⟨((kd.trans (ko.trans hk2)).trans hk5).from _, kbd.trans ((KeepN.below hb2 hSd.lt (fun g e => by have := hrow g e; omega)).trans ⟨kB.trans kB5, fun g e => ?_⟩), by rw [HSN.out]; exact ho5, hB.trans (bd.trans (((hb2.mono hbase).trans hbb2).trans hbb5)), boxed_keep kB5 hS3⟩
      have h1 := hrow g e
      have hz1 := hg'.size
      exact ((KeepB.of_grownBy hg' (by omega) (fun q => by have := hown2.base_le g q.symm; omega)).trans (KeepB.setCell _ _ (by omega))).trans ((KeepB.of_grownBy hg4 (by omega) (fun q => by have := hown3.base_le g q.symm; omega)).trans (KeepB.setCell _ _ (by omega)))
  case done =>
    rintro D ys W hD rfl ⟨⟨u, hv, hown⟩, hB, _⟩ hK
    have hc := hv.cell
    have hcv := OwnU8.string (show OwnU8 W w.heap.size u (textF (atN xs (List.finRange xs.length))) from hown)
    rw [atN_all, ← HT.out] at hcv
    gi_wp2
    refine ⟨by simp, .inl ⟨_, _, rfl, run_takeDeferred hK, ?_⟩⟩
    exact ⟨_, results_tmp rfl _ _ _, rfl, hB.trans (belowK_b (w := w) (Nat.le_refl _) W D _ _ (by have := HZ.out; omega) hK rfl rfl)⟩
  case stop =>
    rintro D c pre W _ _ h _
    exact h.elim
end
end Go.Proofs.YtfcdajldpnomfaaGreatDoor

