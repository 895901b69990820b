import Derived.Laws.AppendOwnNone
import Derived.Lib.Walk
import Derived.Lib.SliceRun
import Derived.Deep.RegionLaw
import Derived.RangeFuncKeeps
import Derived.RangeFuncNested
import Derived.Test.YtnpnfajgphpabaaGreatMQ16
namespace Go.Proofs.YtnpnfajgphpabaaGreat
set_option maxRecDepth 20000
open Go.RowKit Go.Shelf
structure St where
 owner : Nm
 ty : Int
 ttl : Nat
 data : List Dat
def belM (o : Nm) (t : Int) (r : Rc) : Bool := decide (r.data.ty = t) && sameN r.owner o
def belR (y r : Rc) : Bool := belM y.owner y.data.ty r
theorem qcx (y : Rc) : belR y y = true := by simp [belR, belM, qc0]
def stR (y : Rc) (r : List Rc) : St := ⟨y.owner, y.data.ty, leastM y.ttl r, y.data :: r.map Rc.data⟩
def setsF : Nat → List Rc → List St
 | 0, _ => []
 | _, [] => []
 | n + 1, y :: r => stR y (r.takeWhile (belR y)) :: setsF n (r.dropWhile (belR y))
theorem qe0 : ∀ (n m : Nat) (l : List Rc), l.length ≤ n → l.length ≤ m → setsF n l = setsF m l
 | 0, 0, l, _, _ => rfl
 | 0, m + 1, l, h, _ => by
  have : l = [] := List.eq_nil_of_length_eq_zero (by omega)
  subst this; rfl
 | n + 1, 0, l, _, h => by
  have : l = [] := List.eq_nil_of_length_eq_zero (by omega)
  subst this; rfl
 | n + 1, m + 1, [], _, _ => rfl
 | n + 1, m + 1, y :: r, h1, h2 => by
  have hl : (r.dropWhile (belR y)).length ≤ r.length := (List.dropWhile_sublist _).length_le
  simp only [List.length_cons] at h1 h2
  simp only [setsF]
  rw [qe0 n m _ (by omega) (by omega)]
def setsM (l : List Rc) : List St := setsF l.length l
theorem qaM (y : Rc) (r : List Rc) : setsM (y :: r) = stR y (r.takeWhile (belR y)) :: setsM (r.dropWhile (belR y)) := by
 have hl : (r.dropWhile (belR y)).length ≤ r.length := (List.dropWhile_sublist _).length_le
 unfold setsM
 simp only [List.length_cons, setsF]
 rw [qe0 r.length _ _ hl (qN0)]
theorem qa3 : setsM [] = [] := rfl
def nxtS (rs : List Rc) (s : Nat) : Nat := match rs.drop s with
 | [] => s + 1
 | y :: r => s + 1 + (r.takeWhile (belR y)).length
def segsH : Nat → Nat → List Rc → List (Nat × Nat)
 | 0, _, _ => []
 | f + 1, s, rs => if s < rs.length then (s, nxtS rs s) :: segsH f (nxtS rs s) rs else []
def segsS (rs : List Rc) : List (Nat × Nat) := segsH rs.length 0 rs
theorem qdO {rs : List Rc} {s : Nat} (hs : s < rs.length) : nxtS rs s = s + 1 + ((rs.drop (s + 1)).takeWhile (belR rs[s])).length := by
 unfold nxtS
 rw [List.drop_eq_getElem_cons hs]
theorem qcj {rs : List Rc} {s : Nat} (hs : s < rs.length) : s < nxtS rs s ∧ nxtS rs s ≤ rs.length := by
 rw [qdO hs]
 have := (qaU (p := belR rs[s]) (rs.drop (s + 1))).1
 rw [List.length_drop] at this
 omega
theorem qjk {rs : List Rc} {s e : Nat} (hs : s < rs.length) (h1 : s + 1 ≤ e) (h2 : e ≤ nxtS rs s) (he : e < rs.length) (hsame : belR rs[s] rs[e] = true) : e + 1 ≤ nxtS rs s := by
 rw [qdO hs] at h2 ⊢
 obtain ⟨t1, t2, t3⟩ := qaU (p := belR rs[s]) (rs.drop (s + 1))
 rcases Nat.lt_or_ge e (s + 1 + ((rs.drop (s + 1)).takeWhile (belR rs[s])).length) with h | h
 ·omega
 ·exfalso
  obtain ⟨j, rfl⟩ : ∃ j, e = s + 1 + j := ⟨e - (s + 1), by omega⟩
  have e1 : ((rs.drop (s + 1)).takeWhile (belR rs[s])).length = j := by omega
  have := t3 (by rw [List.length_drop]; omega)
  simp only [e1, List.getElem_drop] at this
  rw [hsame] at this; cases this
theorem qfD {rs : List Rc} {s e : Nat} (hs : s < rs.length) (h1 : s + 1 ≤ e) (h2 : e ≤ nxtS rs s) (h : e = rs.length ∨ ∃ he : e < rs.length, belR rs[s] rs[e] = false) : e = nxtS rs s := by
 have hn := qcj hs
 rcases h with h | ⟨he, h⟩
 ·omega
 ·rcases Nat.lt_or_ge e (nxtS rs s) with h3 | h3
  ·exfalso
   rw [qdO hs] at h3
   obtain ⟨t1, t2, t3⟩ := qaU (p := belR rs[s]) (rs.drop (s + 1))
   obtain ⟨j, rfl⟩ : ∃ j, e = s + 1 + j := ⟨e - (s + 1), by omega⟩
   have := t2 j (by omega) (by rw [List.length_drop]; omega)
   simp only [List.getElem_drop] at this
   rw [h] at this; cases this
  ·omega
theorem qcV (rs : List Rc) : ∀ (f s : Nat), rs.length - s ≤ f → segsH f s rs = segsH (rs.length - s) s rs
 | 0, s, h => by rw [show rs.length - s = 0 by omega]
 | f + 1, s, h => by
  by_cases hs : s < rs.length
  ·have hn := qcj hs
   obtain ⟨m, hm⟩ : ∃ m, rs.length - s = m + 1 := ⟨rs.length - s - 1, by omega⟩
   rw [hm]
   simp only [segsH, if_pos hs]
   rw [qcV rs f (nxtS rs s) (by omega), qcV rs m (nxtS rs s) (by omega)]
  ·rw [show rs.length - s = 0 by omega]
   simp only [segsH, if_neg hs]
def leftS (rs : List Rc) (s : Nat) : List (Nat × Nat) := segsH (rs.length - s) s rs
theorem qiq (rs : List Rc) : leftS rs 0 = segsS rs := rfl
theorem qfM (rs : List Rc) {s : Nat} (h : rs.length ≤ s) : leftS rs s = [] := by unfold leftS; rw [show rs.length - s = 0 by omega]; rfl
theorem qbK {rs : List Rc} {s : Nat} (hs : s < rs.length) : leftS rs s = (s, nxtS rs s) :: leftS rs (nxtS rs s) := by
 have hn := qcj hs
 obtain ⟨m, hm⟩ : ∃ m, rs.length - s = m + 1 := ⟨rs.length - s - 1, by omega⟩
 unfold leftS
 rw [hm]
 simp only [segsH, if_pos hs]
 rw [qcV rs m (nxtS rs s) (by omega)]
def setR (rs : List Rc) (x : Nat × Nat) : St := match rs.drop x.1 with
 | [] => ⟨[], 0, 0, []⟩
 | y :: r => stR y (r.take (x.2 - x.1 - 1))
theorem qet (rs : List Rc) : ∀ (n s : Nat), rs.length - s ≤ n → (leftS rs s).map (setR rs) = setsM (rs.drop s)
 | n, s, h => by
  by_cases hs : s < rs.length
  ·have hn := qcj hs
   have e1 := qdO hs
   obtain ⟨t1, t2⟩ := qbV (belR rs[s]) (rs.drop (s + 1))
   rw [qbK hs, List.map_cons, List.drop_eq_getElem_cons hs, qaM]
   have ed : (rs.drop (s + 1)).dropWhile (belR rs[s]) = rs.drop (nxtS rs s) := by rw [← t2, List.drop_drop, e1]
   have er : setR rs (s, nxtS rs s) = stR rs[s] ((rs.drop (s + 1)).takeWhile (belR rs[s])) := by
    unfold setR
    simp only [List.drop_eq_getElem_cons hs]
    rw [← t1, show nxtS rs s - s - 1 = ((rs.drop (s + 1)).takeWhile (belR rs[s])).length by omega]
   rw [er, ed]
   cases n with
   | zero => omega
   | succ n => rw [qet rs n (nxtS rs s) (by omega)]
  ·rw [qfM rs (by omega), List.drop_of_length_le (by omega)]
   rfl
theorem qcw (rs : List Rc) : (segsS rs).map (setR rs) = setsM rs := by rw [← qiq, qet rs rs.length 0 (by omega)]; rfl
end Go.Proofs.YtnpnfajgphpabaaGreat
namespace Go.Proofs.YtnpnfajgphpabaaGreat
set_option maxRecDepth 20000
open Go.RowKit Go.Shelf
open Stb (COrd)
def keyR (a b : Rc) : Int := orI (qai a.owner b.owner) (cmpI a.data.ty b.data.ty)
theorem cord_keyR : COrd keyR := qbk (qaH qby Rc.owner) (qaH (qaH qbj Dat.ty) Rc.data)
theorem cmpI_zero {a b : Int} : cmpI a b = 0 ↔ a = b := by
 unfold cmpI
 constructor
 ·intro h
  by_cases h1 : a < b
  ·rw [if_pos h1] at h; cases h
  ·rw [if_neg h1] at h
   by_cases h2 : b < a
   ·simp [h2] at h
   ·omega
 ·rintro rfl; simp
theorem qaF (a b : Rc) : keyR a b = 0 ↔ belR b a = true := by
 unfold keyR belR belM orI
 rw [Bool.and_eq_true, decide_eq_true_eq]
 by_cases h : qai a.owner b.owner = 0
 ·rw [if_pos h]
  exact ⟨fun h2 => ⟨cmpI_zero.1 h2, (qbA _ _).1 h⟩, fun h2 => cmpI_zero.2 h2.1⟩
 ·rw [if_neg h]
  exact ⟨fun h2 => absurd h2 h, fun h2 => absurd ((qbA _ _).2 h2.2) h⟩
theorem qcS {a b : Rc} (h : qab a b ≤ 0) : keyR a b ≤ 0 := by
 unfold qab qas orI at h
 unfold keyR orI
 by_cases h1 : qai a.owner b.owner = 0
 ·rw [if_pos h1] at h ⊢
  by_cases h2 : cmpI a.data.ty b.data.ty = 0
  ·omega
  ·rw [if_neg h2] at h; exact h
 ·rw [if_neg h1] at h ⊢; exact h
theorem qcO {a b : Rc} (h : qab a b = 0) : keyR a b = 0 := by
 have h1 := qcS (a := a) (b := b) (by omega)
 have h2 := qcS (a := b) (b := a) (by have := qaX a b; omega)
 have h3 := cord_keyR.anti a b
 omega
theorem qcq {a b : Rc} (h : keyR a b = 0) : keyR b a = 0 := by have := cord_keyR.anti a b; omega
theorem qh5 {o : Nm} {t : Int} {a b : Rc} (h : keyR a b = 0) : belM o t a = belM o t b := by
 have h1 := (qaF a b).1 h
 unfold belR belM at h1
 rw [Bool.and_eq_true, decide_eq_true_eq] at h1
 unfold belM
 rw [h1.1]
 congr 1
 have e := h1.2
 cases h2 : sameN b.owner o with
 | true => exact qa6 e h2
 | false =>
  cases h3 : sameN a.owner o with
  | false => rfl
  | true => rw [qaR] at e; rw [qa6 e h3] at h2; cases h2
theorem qiO {p : Rc → Bool} {x : Rc} : ∀ (c : List Rc), (∀ y ∈ c, 0 < qab y x) → insR (c.filter p) x = x :: c.filter p := fun c h => by
 cases e : c.filter p with
 | nil => rfl
 | cons z r =>
  have hz : z ∈ c := (List.mem_filter.1 (show z ∈ c.filter p by rw [e]; simp)).1
  have := h z hz
  rw [insR, if_neg (by omega), if_neg (by omega)]
theorem qd3 {p : Rc → Bool} (hp : ∀ a b, qab a b = 0 → p a = p b) (x : Rc) : ∀ (c : List Rc), StrictR c → (∀ y ∈ c, p ⟨y.owner, minT y.ttl x.ttl, y.data⟩ = p y) → (insR c x).filter p = if p x = true then insR (c.filter p) x else c.filter p
 | [], _, _ => by
  by_cases hx : p x = true
  ·simp [insR, hx]
  ·simp [insR, hx]
 | y :: r, hs, hm => by
  have hs2 : StrictR r := (List.pairwise_cons.1 hs).2
  have hy := (List.pairwise_cons.1 hs).1
  have ih := qd3 hp x r hs2 (fun z hz => hm z (by simp [hz]))
  by_cases h1 : qab y x < 0
  ·rw [insR, if_pos h1, List.filter_cons, ih, List.filter_cons]
   by_cases hpy : p y = true
   ·rw [if_pos hpy, if_pos hpy]
    by_cases hx : p x = true
    ·rw [if_pos hx, if_pos hx, insR, if_pos h1]
    ·rw [if_neg hx, if_neg hx]
   ·rw [if_neg hpy, if_neg hpy]
  ·by_cases h2 : qab y x = 0
   ·have e := hp y x h2
    have em := hm y (by simp)
    rw [insR, if_neg h1, if_pos h2, List.filter_cons, em, List.filter_cons]
    by_cases hpy : p y = true
    ·rw [if_pos hpy, if_pos hpy, if_pos (by rw [← e]; exact hpy), insR, if_neg h1, if_pos h2]
    ·rw [if_neg hpy, if_neg hpy, if_neg (by rw [← e]; exact hpy)]
   ·rw [insR, if_neg h1, if_neg h2, List.filter_cons]
    by_cases hx : p x = true
    ·rw [if_pos hx, if_pos hx]
     refine (qiO (y :: r) fun z hz => ?_).symm
     rcases List.mem_cons.1 hz with rfl | hz
     ·have := qfl z x; omega
     ·have h3 := hy z hz
      have h4 : qab x y ≤ 0 := by have := qaX y x; omega
      have h5 := qkC h4 h3
      have := qaX x z
      omega
    ·rw [if_neg hx, if_neg hx]
theorem qgi (o : Nm) (t : Int) (l : List Rc) : canonM (l.filter (belM o t)) = (canonM l).filter (belM o t) :=
 qaV (P := fun l => canonM (l.filter (belM o t)) = (canonM l).filter (belM o t)) rfl (fun l x ih => by
  rw [qaW, qd3 (fun a b h => qh5 (qcO h)) x _ (qa1 l).up (fun y _ => rfl), List.filter_append]
  by_cases hx : belM o t x = true
  ·rw [if_pos hx, List.filter_cons, if_pos hx, List.filter_nil, qaW, ih]
  ·rw [if_neg hx, List.filter_cons, if_neg hx, List.filter_nil, List.append_nil, ih]) l
theorem qdk {p : Rc → Bool} : ∀ (l : List Rc), (∀ z ∈ l, p z = true) → l.takeWhile p = l ∧ l.dropWhile p = [] := fun l h => by
 have := qbB (p := p) l [] h (fun z hz => by cases hz)
 simpa using this
theorem qcb {p : Rc → Bool} : ∀ (l : List Rc), ∀ z ∈ l.takeWhile p, p z = true
 | [], z, h => by cases h
 | x :: r, z, h => by
  by_cases hx : p x = true
  ·rw [List.takeWhile_cons, if_pos hx] at h
   rcases List.mem_cons.1 h with rfl | h
   ·exact hx
   ·exact qcb r z h
  ·rw [List.takeWhile_cons, if_neg hx] at h; cases h
theorem qew {y : Rc} {r : List Rc} (hs : StrictR (y :: r)) : ∀ z ∈ r.dropWhile (belR y), belR y z = false := by
 have hd := qbN (belR y) r
 have hsub : ∀ z ∈ r.dropWhile (belR y), z ∈ r := fun z hz => (List.dropWhile_sublist _).subset hz
 have hst : StrictR (r.dropWhile (belR y)) := List.Pairwise.sublist (List.dropWhile_sublist _) (List.pairwise_cons.1 hs).2
 cases e : r.dropWhile (belR y) with
 | nil => intro z hz; cases hz
 | cons d D =>
  rw [e] at hd hsub hst
  have h1 : belR y d = false := hd d (by simp)
  have h2 : qab y d < 0 := (List.pairwise_cons.1 hs).1 d (hsub d (by simp))
  have k1 : keyR d y ≠ 0 := fun h => by rw [(qaF d y).1 h] at h1; cases h1
  have k2 : keyR y d ≤ 0 := qcS (by omega)
  have k3 : keyR y d < 0 := by have := cord_keyR.anti y d; omega
  intro z hz
  rcases List.mem_cons.1 hz with rfl | hz
  ·exact h1
  ·have h3 : qab d z < 0 := (List.pairwise_cons.1 hst).1 z hz
   have k4 : keyR d z ≤ 0 := qcS (by omega)
   cases hb : belR y z with
   | false => rfl
   | true =>
    have k5 : keyR z y = 0 := (qaF z y).2 hb
    have k6 := cord_keyR.trans d z y k4 (by omega)
    have := cord_keyR.anti d y
    omega
theorem qik {a b c : Rc} (h1 : belR a b = true) (h2 : belR a c = true) : belR b c = true := by
 have k1 := (qaF b a).2 h1
 have k2 := (qaF c a).2 h2
 have k3 := qcq k1
 refine (qaF c b).1 ?_
 have t1 := cord_keyR.trans c a b (by omega) (by omega)
 have t2 := cord_keyR.trans b a c (by omega) (by have := qcq k2; omega)
 have := cord_keyR.anti c b
 omega
theorem qbh : ∀ (n : Nat) (c : List Rc), c.length ≤ n → StrictR c → ∀ s ∈ setsM c, ∃ y r, s = stR y r ∧ y ∈ c ∧ c.filter (belM s.owner s.ty) = y :: r
 | 0, c, hn, _, s, h => by
  obtain rfl : c = [] := List.eq_nil_of_length_eq_zero (by omega)
  cases h
 | n + 1, [], _, _, s, h => by cases h
 | n + 1, y :: r, hn, hs, s, h => by
  have hl : (r.dropWhile (belR y)).length ≤ r.length := (List.dropWhile_sublist _).length_le
  have hst : StrictR (r.dropWhile (belR y)) := List.Pairwise.sublist (List.dropWhile_sublist _) (List.pairwise_cons.1 hs).2
  have hr : r = r.takeWhile (belR y) ++ r.dropWhile (belR y) := (List.takeWhile_append_dropWhile).symm
  have hno := qew hs
  have hall := qcb (p := belR y) r
  rw [qaM] at h
  rcases List.mem_cons.1 h with rfl | h
  ·refine ⟨y, r.takeWhile (belR y), rfl, by simp, ?_⟩
   have e : (fun z => belM (stR y (r.takeWhile (belR y))).owner (stR y (r.takeWhile (belR y))).ty z) = belR y := rfl
   show (y :: r).filter (belR y) = _
   rw [List.filter_cons, if_pos (qcx y)]
   congr 1
   rw (occs := .pos [1]) [hr]
   rw [List.filter_append, List.filter_eq_self.2 hall, List.filter_eq_nil_iff.2 (fun z hz => by rw [hno z hz]; simp), List.append_nil]
  ·simp only [List.length_cons] at hn
   obtain ⟨y', r', e1, e2, e3⟩ := qbh n _ (by omega) hst s h
   refine ⟨y', r', e1, List.mem_cons_of_mem _ ((List.dropWhile_sublist _).subset e2), ?_⟩
   have hb : ∀ z, belR y z = true → belM s.owner s.ty z = false := fun z hz => by
    cases hh : belM s.owner s.ty z with
    | false => rfl
    | true =>
     exfalso
     have h5 : belR y' z = true := by rw [e1] at hh; exact hh
     have h6 := hno y' e2
     have k1 := (qaF z y').2 h5
     have k2 := (qaF z y).2 hz
     have : belR z y' = true := (qaF y' z).1 (qcq k1)
     have h7 : belR z y = true := (qaF y z).1 (qcq k2)
     rw [qik h7 this] at h6; cases h6
   rw [List.filter_cons, if_neg (by rw [hb y (qcx y)]; simp)]
   rw (occs := .pos [1]) [hr]
   rw [List.filter_append, List.filter_eq_nil_iff.2 (fun z hz => by rw [hb z (hall z hz)]; simp), List.nil_append, e3]
theorem qiX {y : Rc} {r : List Rc} (h : ∀ z ∈ r, belR y z = true) : setsM (y :: r) = [stR y r] := by
 rw [qaM, (qdk r h).1, (qdk r h).2]; rfl
def ofM (l : List Rc) (o : Nm) (t : Int) : Option St := (setsM (canonM (l.filter (belM o t)))).head?
theorem qeV : ∀ (n : Nat) (c : List Rc), c.length ≤ n → ((setsM c).map fun s => s.data.length).sum = c.length
 | 0, c, hn => by
  obtain rfl : c = [] := List.eq_nil_of_length_eq_zero (by omega)
  rfl
 | n + 1, [], _ => rfl
 | n + 1, y :: r, hn => by
  have hl : (r.dropWhile (belR y)).length ≤ r.length := (List.dropWhile_sublist _).length_le
  simp only [List.length_cons] at hn
  have hr : (r.takeWhile (belR y)).length + (r.dropWhile (belR y)).length = r.length := by
   rw [← List.length_append, List.takeWhile_append_dropWhile]
  rw [qaM, List.map_cons, List.sum_cons, qeV n _ (by omega)]
  simp only [stR, List.length_cons, List.length_map]
  omega
theorem qjz {l : List Rc} {s : St} (h : s ∈ setsM (canonM l)) : ∃ a ∈ l, sameN a.owner s.owner = true ∧ a.data.ty = s.ty := by
 obtain ⟨y, r, e1, e2, _⟩ := qbh _ _ (qN0) (qa1 l).up s h
 obtain ⟨a, ha, h1, _⟩ := (qa1 l).of y e2
 have h2 := (qaF a y).1 (qcO h1)
 unfold belR belM at h2
 rw [Bool.and_eq_true, decide_eq_true_eq] at h2
 exact ⟨a, ha, by rw [e1]; exact h2.2, by rw [e1]; exact h2.1⟩
end Go.Proofs.YtnpnfajgphpabaaGreat
namespace Go.Proofs.YtnpnfajgphpabaaGreat
set_option maxRecDepth 20000
set_option maxHeartbeats 2000000
open Go.RowKit Go.Shelf
def SlK (W : World) (v : Value) (css : List (List Value)) : Prop :=
 ∃ a c, v = .slice a css.length c ∧ css.length ≤ c ∧ (a = none → c = 0) ∧ (css = [] ∨ ∃ b off, a = some ⟨b, off, none⟩ ∧ b < W.heap.size ∧ ∀ j u, css.flatten[j]? = some u → W.cell? ⟨b, off + j, none⟩ = some u)
theorem SlK.below {W W' : World} {v : Value} {css : List (List Value)} (h : SlK W v css) (hb : Below W.heap.size W W') : SlK W' v css := by
 obtain ⟨a, c, e, h1, h2, h⟩ := h
 refine ⟨a, c, e, h1, h2, ?_⟩
 rcases h with h | ⟨b, off, ea, hlt, hc⟩
 ·exact .inl h
 ·exact .inr ⟨b, off, ea, Nat.lt_of_lt_of_le hlt hb.size, fun j u hj => (hb.cell (p := ⟨b, off + j, none⟩) hlt).trans (hc j u hj)⟩
theorem SlK.nil (W : World) : SlK W (.slice none 0 0) [] := ⟨none, 0, rfl, qN0, fun _ => rfl, .inl rfl⟩
theorem qfu {W : World} {v : Value} {xs : List Value} (h : SlAt W v xs) : SlK W v (xs.map fun x => [x]) := by
 obtain ⟨a, c, e, h1, h2, h⟩ := h
 refine ⟨a, c, by rw [List.length_map]; exact e, by rw [List.length_map]; exact h1, h2, ?_⟩
 have hf : ∀ xs : List Value, (xs.map fun x => [x]).flatten = xs := fun xs => by
  induction xs with
  | nil => rfl
  | cons x r ih => rw [List.map_cons, List.flatten_cons, ih]; rfl
 rcases h with h | ⟨b, off, ea, hlt, hc⟩
 ·subst h; exact .inl rfl
 ·refine .inr ⟨b, off, ea, hlt, fun j u hj => ?_⟩
  rw [hf] at hj
  obtain ⟨hj1, hj2⟩ := List.getElem?_eq_some_iff.1 hj
  rw [← hj2]; exact hc j hj1
abbrev OwnC (k : Nat) (T : TypeId) (W : World) (base : Nat) (v : Value) (css : List (List Value)) : Prop := OwnK k T (fun cs : List Value => cs) W base v css
theorem qbG (css : List (List Value)) : css.flatMap (fun cs => cs) = css.flatten := by simp [List.flatMap]
theorem qbd {k : Nat} : ∀ (css : List (List Value)), (∀ cs ∈ css, cs.length = k) → css.flatten.length = css.length * k
 | [], _ => by simp
 | c :: r, h => by
  rw [List.flatten_cons, List.length_append, h c (by simp), qbd r (fun x hx => h x (by simp [hx])), List.length_cons, Nat.succ_mul]; omega
theorem SlK.of_own {k : Nat} {T : TypeId} {W : World} {base : Nat} {v : Value} {css : List (List Value)} (h : OwnC k T W base v css) (hk : ∀ cs ∈ css, cs.length = k) : SlK W v css := by
 rcases h.2 with ⟨rfl, h0⟩ | ⟨g, cap, cur, rfl, hb, hg, hc, hm, hsz, htk⟩
 ·obtain rfl := List.eq_nil_of_length_eq_zero h0
  exact SlK.nil W
 ·refine ⟨_, _, rfl, hc, (fun e => by cases e), .inr ⟨g, 0, rfl, (Array.getElem?_eq_some_iff.1 hg).1, fun j u hj => ?_⟩⟩
  have hl := qbd css hk
  have hj' : j < css.length * k := by rw [← hl]; exact (List.getElem?_eq_some_iff.1 hj).1
  have h3 : cur.toList[j]? = some u := by
   have : (cur.toList.take (css.length * k))[j]? = some u := by rw [htk, qbG]; exact hj
   rw [List.getElem?_take, if_pos hj'] at this
   exact this
  simp only [World.cell?, hg, Nat.zero_add]
  simpa using h3
theorem qar {S T : TypeId} {k bytes : Nat} {ops : Array Oper} {rest : List Oper} {o : Oper} {a : Act} {Q : Exit → Act → World → Prop} (W : World) (hgd : o.guard = none) (s x : Operand) (hE : ElemK k T S bytes) (hk0 : 0 < k)
 (ho : o.op = .call { callee := .builtin .append, args := #[s, x], argTypes := #[S, S] })
 (base : Nat) (v : Value) (xs : List (List Value)) (hs : a.eval s = v) (hown : OwnC k T W base v xs)
 (src : Value) (ys : List (List Value)) (hx : a.eval x = src) (hsrc : SlK W src ys) (hyk : ∀ cs ∈ ys, cs.length = k) (hy1 : ∀ cs ∈ ys, ∀ u ∈ cs, u.oneCell' = true)
 (hbase : base ≤ W.heap.size) (hk : xs.length + ys.length ≤ maxLen) (hk2 : (xs.length + ys.length) * bytes ≤ 140737488355328)
 (h : ∀ v' w', OwnC k T w' base v' (xs ++ ys) → W.grownBy w' v.ownBlock → wpList Tryz.prog ops Q rest (a.put o.dst v') w') :
 wpList Tryz.prog ops Q (o :: rest) a W := by
 obtain ⟨ht, i, z, hi, hz, hz1, hz2, hzc⟩ := hE
 obtain ⟨a0, c0, rfl, h1, h2, h3⟩ := hsrc
 have hlen := qbd ys hyk
 cases a0 with
 | none =>
  have e3 := h2 rfl
  subst e3
  have e4 : ys = [] := List.eq_nil_of_length_eq_zero (by omega)
  subst e4
  refine wpList_append_own_none hgd s x S ho base _ i k ht hi v _ _ hs hown hx ?_
  exact h v W (by rw [List.append_nil]; exact hown) ⟨rfl, rfl, rfl, qN0, fun _ _ _ => rfl⟩
 | some ad =>
  have hcell : ∀ j u, ys.flatten[j]? = some u → W.cell? (ad.add j) = some u := by
   intro j u hj
   rcases h3 with h3 | ⟨b, off, ea, _, hc⟩
   ·subst h3; simp at hj
   ·cases ea; rw [Addr.add_lit]; exact hc j u hj
  refine wpList_append_own _ hgd s x S ho base _ i z k bytes ht hi hz hz1 hz2 hzc hk0 v xs.length (xs.flatMap fun cs => cs) hs hown ad ys.length c0 ys.flatten hx hlen hcell (by intro u hu; obtain ⟨y, hy, hu⟩ := List.mem_flatten.1 hu; exact hy1 y hy u hu) hk hk2 hbase ?_
  intro v' w' g1 g2 _
  refine h v' w' ?_ g2
  unfold OwnC OwnK
  rw [List.length_append, List.flatMap_append, qbG ys]
  exact g1
theorem qau (k : Nat) (T : TypeId) (w : World) : OwnC k T (w.alloc (.cells #[] T)) w.heap.size (.slice (some ⟨w.heap.size, 0, none⟩) 0 0) [] := World.ownsRow_made w #[] 0 (qN0) (Nat.zero_le _) (by simp)
theorem qcT : ElemK 7 47 24 136 := ⟨Tryz.underlying24, _, _, rfl, rfl, rfl, rfl, rfl⟩
theorem qjy (v : Value) (css : List (List Value)) (w : World) (hA : SlK w v css) (hk : ∀ cs ∈ css, cs.length = 7) (h1 : ∀ cs ∈ css, ∀ u ∈ cs, u.oneCell' = true) (hl : css.length ≤ 1000000000000) :
 Calls Tryz.prog 82 #[v] w fun e w' => ∃ v', e = .returned v' ∧ OwnC 7 47 w' w.heap.size v' css ∧ Below w.heap.size w w' := by
 obtain ⟨a, c, rfl, hc1, hc2, hx⟩ := id hA
 cases a with
 | none =>
  have hnil : css = [] := List.eq_nil_of_length_eq_zero (by have := hc2 rfl; omega)
  subst hnil
  obtain rfl := hc2 rfl
  clear hc2 hx
  have q := fun w => Lib.run_eql_slice_nil (P := Tryz.prog) w 24 _ none 0 0 0 0 Tryz.underlying24
  go_enter Tryz.func82, Tryz.ntmps82
  go_wp2
  go_ret
  exact ⟨_, rfl, OwnK.nil _ _, qL0⟩
 | some ad =>
  have hlit := qau 7 47 w
  have q := fun w => Lib.run_eql_slice_nil (P := Tryz.prog) w 24 _ (some ad) css.length c 0 0 Tryz.underlying24
  go_enter Tryz.func82, Tryz.ntmps82
  go_wp2_with (at_builtin; refine qar (w.alloc (.cells #[] 47)) rfl (.tmp 5) (.tmp 6) qcT (by decide) rfl w.heap.size _ [] rfl hlit _ css rfl (hA.below ((Below.refl _ w).alloc (qN0) _)) hk h1 (by simp) (by unfold maxLen; simp; omega) (by simp; omega) ?_; intro v' w' hown' hg')
  go_ret
  exact ⟨v', rfl, hown', ((Below.refl _ w).alloc (qN0) _).grown hg' (by simp) hlit.base_le⟩
theorem qkK : ElemK 1 45 41 4 := ⟨Tryz.underlying41, _, _, rfl, rfl, rfl, rfl, rfl⟩
theorem qiT (v : Value) (css : List (List Value)) (w : World) (hA : SlK w v css) (hk : ∀ cs ∈ css, cs.length = 1) (h1 : ∀ cs ∈ css, ∀ u ∈ cs, u.oneCell' = true) (hl : css.length ≤ 1000000000000) :
 Calls Tryz.prog 86 #[v] w fun e w' => ∃ v', e = .returned v' ∧ OwnC 1 45 w' w.heap.size v' css ∧ Below w.heap.size w w' := by
 obtain ⟨a, c, rfl, hc1, hc2, hx⟩ := id hA
 cases a with
 | none =>
  have hnil : css = [] := List.eq_nil_of_length_eq_zero (by have := hc2 rfl; omega)
  subst hnil
  obtain rfl := hc2 rfl
  clear hc2 hx
  have q := fun w => Lib.run_eql_slice_nil (P := Tryz.prog) w 41 _ none 0 0 0 0 Tryz.underlying41
  go_enter Tryz.func86, Tryz.ntmps86
  go_wp2
  go_ret
  exact ⟨_, rfl, OwnK.nil _ _, qL0⟩
 | some ad =>
  have hlit := qau 1 45 w
  have q := fun w => Lib.run_eql_slice_nil (P := Tryz.prog) w 41 _ (some ad) css.length c 0 0 Tryz.underlying41
  go_enter Tryz.func86, Tryz.ntmps86
  go_wp2_with (at_builtin; refine qar (w.alloc (.cells #[] 45)) rfl (.tmp 5) (.tmp 6) qkK (by decide) rfl w.heap.size _ [] rfl hlit _ css rfl (hA.below ((Below.refl _ w).alloc (qN0) _)) hk h1 (by simp) (by unfold maxLen; simp; omega) (by simp; omega) ?_; intro v' w' hown' hg')
  go_ret
  exact ⟨v', rfl, hown', ((Below.refl _ w).alloc (qN0) _).grown hg' (by simp) hlit.base_le⟩
theorem qki : ElemK 1 9 22 16 := ⟨Tryz.underlying22, _, _, rfl, rfl, rfl, rfl, rfl⟩
theorem qjI (v : Value) (css : List (List Value)) (w : World) (hA : SlK w v css) (hk : ∀ cs ∈ css, cs.length = 1) (h1 : ∀ cs ∈ css, ∀ u ∈ cs, u.oneCell' = true) (hl : css.length ≤ 1000000000000) :
 Calls Tryz.prog 87 #[v] w fun e w' => ∃ v', e = .returned v' ∧ OwnC 1 9 w' w.heap.size v' css ∧ Below w.heap.size w w' := by
 obtain ⟨a, c, rfl, hc1, hc2, hx⟩ := id hA
 cases a with
 | none =>
  have hnil : css = [] := List.eq_nil_of_length_eq_zero (by have := hc2 rfl; omega)
  subst hnil
  obtain rfl := hc2 rfl
  clear hc2 hx
  have q := fun w => Lib.run_eql_slice_nil (P := Tryz.prog) w 22 _ none 0 0 0 0 Tryz.underlying22
  go_enter Tryz.func87, Tryz.ntmps87
  go_wp2
  go_ret
  exact ⟨_, rfl, OwnK.nil _ _, qL0⟩
 | some ad =>
  have hlit := qau 1 9 w
  have q := fun w => Lib.run_eql_slice_nil (P := Tryz.prog) w 22 _ (some ad) css.length c 0 0 Tryz.underlying22
  go_enter Tryz.func87, Tryz.ntmps87
  go_wp2_with (at_builtin; refine qar (w.alloc (.cells #[] 9)) rfl (.tmp 5) (.tmp 6) qki (by decide) rfl w.heap.size _ [] rfl hlit _ css rfl (hA.below ((Below.refl _ w).alloc (qN0) _)) hk h1 (by simp) (by unfold maxLen; simp; omega) (by simp; omega) ?_; intro v' w' hown' hg')
  go_ret
  exact ⟨v', rfl, hown', ((Below.refl _ w).alloc (qN0) _).grown hg' (by simp) hlit.base_le⟩
theorem qjH : ElemK 1 5 42 1 := ⟨Tryz.underlying42, _, _, rfl, rfl, rfl, rfl, rfl⟩
theorem qij (v : Value) (css : List (List Value)) (w : World) (hA : SlK w v css) (hk : ∀ cs ∈ css, cs.length = 1) (h1 : ∀ cs ∈ css, ∀ u ∈ cs, u.oneCell' = true) (hl : css.length ≤ 1000000000000) :
 Calls Tryz.prog 88 #[v] w fun e w' => ∃ v', e = .returned v' ∧ OwnC 1 5 w' w.heap.size v' css ∧ Below w.heap.size w w' := by
 obtain ⟨a, c, rfl, hc1, hc2, hx⟩ := id hA
 cases a with
 | none =>
  have hnil : css = [] := List.eq_nil_of_length_eq_zero (by have := hc2 rfl; omega)
  subst hnil
  obtain rfl := hc2 rfl
  clear hc2 hx
  have q := fun w => Lib.run_eql_slice_nil (P := Tryz.prog) w 42 _ none 0 0 0 0 Tryz.underlying42
  go_enter Tryz.func88, Tryz.ntmps88
  go_wp2
  go_ret
  exact ⟨_, rfl, OwnK.nil _ _, qL0⟩
 | some ad =>
  have hlit := qau 1 5 w
  have q := fun w => Lib.run_eql_slice_nil (P := Tryz.prog) w 42 _ (some ad) css.length c 0 0 Tryz.underlying42
  go_enter Tryz.func88, Tryz.ntmps88
  go_wp2_with (at_builtin; refine qar (w.alloc (.cells #[] 5)) rfl (.tmp 5) (.tmp 6) qjH (by decide) rfl w.heap.size _ [] rfl hlit _ css rfl (hA.below ((Below.refl _ w).alloc (qN0) _)) hk h1 (by simp) (by unfold maxLen; simp; omega) (by simp; omega) ?_; intro v' w' hown' hg')
  go_ret
  exact ⟨v', rfl, hown', ((Below.refl _ w).alloc (qN0) _).grown hg' (by simp) hlit.base_le⟩
end Go.Proofs.YtnpnfajgphpabaaGreat
namespace Go.Proofs.YtnpnfajgphpabaaGreat
set_option maxRecDepth 20000
set_option maxHeartbeats 2000000
set_option linter.unusedSectionVars false
open Go.RowKit Go.Shelf Go.Sort Go.Lib
open Stb (COrd Lx Rise)
def Rcs (W : World) (css : List (List Value)) (rs : List Rc) : Prop := css.length = rs.length ∧ ∀ i (h1 : i < css.length) (h2 : i < rs.length), RcAt W css[i] rs[i]
theorem Rcs.below {W W' : World} {css : List (List Value)} {rs : List Rc} (h : Rcs W css rs) (hb : Below W.heap.size W W') : Rcs W' css rs := ⟨h.1, fun i h1 h2 => (h.2 i h1 h2).below hb⟩
theorem SlAt.one {W : World} {v : Value} {xs : List Value} (h : SlAt W v xs) : v.oneCell' = true := by obtain ⟨a, c, rfl, _⟩ := h; rfl
theorem RcAt.len {W : World} {cs : List Value} {r : Rc} (h : RcAt W cs r) : cs.length = 7 := by obtain ⟨vo, vn, vu, vt, vr, rfl, _⟩ := h; rfl
theorem RcAt.one {W : World} {cs : List Value} {r : Rc} (h : RcAt W cs r) : ∀ u ∈ cs, u.oneCell' = true := by
 obtain ⟨vo, vn, vu, vt, vr, rfl, h1, h2⟩ := h
 obtain ⟨un, uu, ut, ur, e, ⟨vs, g1, _⟩, g2, g3, g4⟩ := h2
 have e' : #[Value.int .i64 r.data.ty, vn, vu, vt, vr] = #[Value.int .i64 r.data.ty, un, uu, ut, ur] := by injection e
 simp only [Array.mk.injEq, List.cons.injEq, and_true, true_and] at e'
 obtain ⟨rfl, rfl, rfl, rfl⟩ := e'
 intro u hu
 simp only [List.mem_cons, List.not_mem_nil, or_false] at hu
 rcases hu with rfl | rfl | rfl | rfl | rfl | rfl | rfl
 ·exact (nmAt_sl.1 h1).one
 ·rfl
 ·rfl
 ·exact g1.one
 ·exact g2.one
 ·exact (nmAt_sl.1 g3).one
 ·exact g4.one
def Rc.none : Rc := ⟨[], 0, Dat.none⟩
theorem qjt (W : World) : RcAt W [.slice none 0 0, .int .u32 0, .int .i64 0, .slice none 0 0, .slice none 0 0, .slice none 0 0, .slice none 0 0] Rc.none :=
 ⟨_, _, _, _, _, rfl, nm_nil W, _, _, _, _, rfl, NmsAt.nil W, SlAt.nil W, nm_nil W, SlAt.nil W⟩
theorem qjJ : RcOK Rc.none := ⟨⟨by decide, by simp [Rc.none]⟩, by decide, ⟨by decide, by decide⟩, by decide, by simp [Rc.none, Dat.none], by decide, by simp [Rc.none, Dat.none], ⟨by decide, by simp [Rc.none, Dat.none]⟩, by decide⟩
def RcT (w0 : World) : Type := { x : List Value × Rc × Nat // RcAt w0 x.1 x.2.1 ∧ RcOK x.2.1 }
instance (w0 : World) : Inhabited (RcT w0) := ⟨⟨(_, Rc.none, 0), qjt w0, qjJ⟩⟩
def RcT.cells {w0 : World} (x : RcT w0) : List Value := x.1.1
def RcT.rc {w0 : World} (x : RcT w0) : Rc := x.1.2.1
def RcT.tg {w0 : World} (x : RcT w0) : Nat := x.1.2.2
theorem qh4 {α : Type} (enc : α → List Value) (k : Nat) (hk : ∀ x, (enc x).length = k) : ∀ (l : List α) (t : Nat), t < l.length * k → ∃ h : t / k < l.length, (l.flatMap enc)[t]? = (enc l[t / k])[t % k]?
 | [], t, h => by simp at h
 | x :: r, t, h => by
  have k0 : 0 < k := by rcases Nat.eq_zero_or_pos k with h' | h'; · subst h'; simp at h
                        ·exact h'
  rw [List.flatMap_cons]
  by_cases ht : t < k
  ·have e1 : t / k = 0 := Nat.div_eq_of_lt ht
   have e2 : t % k = t := Nat.mod_eq_of_lt ht
   refine ⟨by rw [e1]; simp, ?_⟩
   rw [List.getElem?_append_left (by rw [hk]; exact ht)]
   simp only [e1, e2, List.getElem_cons_zero]
  ·rw [List.length_cons, Nat.succ_mul] at h
   obtain ⟨h1, h2⟩ := qh4 enc k hk r (t - k) (by omega)
   have e1 : t / k = (t - k) / k + 1 := by
    rw [show t = (t - k) + k by omega, Nat.add_div_right _ k0]; congr 2; omega
   have e2 : t % k = (t - k) % k := by rw [show t = (t - k) + k by omega, Nat.add_mod_right]; congr 1; omega
   refine ⟨by rw [e1, List.length_cons]; omega, ?_⟩
   rw [List.getElem?_append_right (by rw [hk]; omega), hk, h2]
   simp only [e1, e2, List.getElem_cons_succ]
theorem qgq {α : Type} [Inhabited α] (enc : α → List Value) (k : Nat) (hk : ∀ x, (enc x).length = k) (d : Array α) (t : Nat) (ht : t < d.size * k) : (d.toList.flatMap enc)[t]? = some (flatK enc k d)[t]! := by
 have k0 : 0 < k := by rcases Nat.eq_zero_or_pos k with h' | h'; · subst h'; simp at ht
                       ·exact h'
 obtain ⟨h1, h2⟩ := qh4 enc k hk d.toList t (by simpa using ht)
 have hm : t % k < k := Nat.mod_lt _ k0
 have h1' : t / k < d.size := by simpa using h1
 rw [h2, get_flatK enc k d t ht, getElem!_pos d _ h1', Array.getElem_toList, getElem!_pos (enc d[t / k]) _ (by rw [hk]; exact hm)]
 exact List.getElem?_eq_getElem _
theorem qdh {α : Type} [Inhabited α] (enc : α → List Value) (k : Nat) (hk : ∀ x, (enc x).length = k) {T : TypeId} {W : World} {base g n c : Nat} {css : List (List Value)} (h : OwnC k T W base (.slice (some ⟨g, 0, none⟩) n c) css) (d : Array α) (hd : d.toList.map enc = css) : HoldsK enc k W g 0 d := by
 have hck : ∀ cs ∈ css, cs.length = k := fun cs hc => by rw [← hd] at hc; obtain ⟨x, _, rfl⟩ := List.mem_map.1 hc; exact hk x
 have hf : css.flatten = d.toList.flatMap enc := by rw [← hd]; rfl
 have hl : css.length = d.size := by rw [← hd]; simp
 intro j hj
 rw [size_flatK] at hj
 have hfl := qgq enc k hk d j hj
 rcases h.2 with ⟨e, _⟩ | ⟨g', cap, cur, e, hb, hg, hc, hm, hsz, htk⟩
 ·cases e
 ·cases e
  have h3 : cur.toList[j]? = some (flatK enc k d)[j]! := by
   have : (cur.toList.take (css.length * k))[j]? = some (flatK enc k d)[j]! := by rw [htk, qbG, hf]; exact hfl
   rw [List.getElem?_take, if_pos (by rw [hl]; exact hj)] at this
   exact this
  refine ⟨?_, by simp [World.frozen?, hg]⟩
  simp only [World.cell?, hg, Nat.zero_add]
  simpa using h3
theorem qdM {α : Type} [Inhabited α] (enc : α → List Value) (k : Nat) (hk : ∀ x, (enc x).length = k) {W : World} {g n c : Nat} (d : Array α) (h : HoldsK enc k W g 0 d) (hn : n = d.size) (hc : n ≤ c) (hg : g < W.heap.size) : SlK W (.slice (some ⟨g, 0, none⟩) n c) (d.toList.map enc) := by
 subst hn
 refine ⟨_, _, by rw [List.length_map, Array.length_toList], by rw [List.length_map, Array.length_toList]; exact hc, (fun e => by cases e), .inr ⟨g, 0, rfl, hg, fun j u hj => ?_⟩⟩
 have hf : (d.toList.map enc).flatten = d.toList.flatMap enc := rfl
 rw [hf] at hj
 have hlt : j < d.size * k := by
  have h1 := (List.getElem?_eq_some_iff.1 hj).1
  have hl : (d.toList.flatMap enc).length = d.size * k := by
   have h := qbd (k := k) (d.toList.map enc) (fun cs hc => by obtain ⟨x, _, rfl⟩ := List.mem_map.1 hc; exact hk x)
   rw [hf] at h
   rw [h, List.length_map, Array.length_toList]
  rw [hl] at h1
  exact h1
 have h2 := qgq enc k hk d j hlt
 rw [hj] at h2
 have h3 := (h j (by rw [size_flatK]; exact hlt)).1
 rw [h3]
 exact h2.symm
theorem tagged (w0 : World) (css : List (List Value)) (rs : List Rc) (h : Rcs w0 css rs) (hOK : ∀ r ∈ rs, RcOK r) : ∃ d : Array (RcT w0), d.toList.map RcT.cells = css ∧ d.toList.map RcT.rc = rs ∧ ∀ i, i < d.size → d[i]!.tg = i := by
 have hl := h.1
 let f : Fin css.length → RcT w0 := fun i => ⟨(css[i], rs[i.1]'(by have := i.2; omega), i.1), h.2 i.1 i.2 (by have := i.2; omega), hOK _ (List.getElem_mem _)⟩
 refine ⟨Array.ofFn f, ?_, ?_, fun i hi => ?_⟩
 ·apply List.ext_getElem
  ·simp
  ·intro i h1 h2
   rw [List.getElem_map, Array.getElem_toList, Array.getElem_ofFn]; rfl
 ·apply List.ext_getElem
  ·simp; omega
  ·intro i h1 h2
   rw [List.getElem_map, Array.getElem_toList, Array.getElem_ofFn]; rfl
 ·have hi' : i < css.length := by simpa using hi
  rw [getElem!_pos _ i hi, Array.getElem_ofFn]
  rfl
theorem qeb {w0 w W : World} {g : Nat} (hb : Below w0.heap.size w0 w) (hg : w.grownBy W (some g)) (hle : w0.heap.size ≤ g) : Below w0.heap.size w0 W :=
 hb.grown hg hb.size (fun k e => by cases e; exact hle)
theorem qjB : SFun Tryz.prog where
 fs := Tryz.func130
 fr := Tryz.func125
 fi := Tryz.func117
 fm := Tryz.func118
 ft := Tryz.func102
 es := enters_of Tryz.func130 (by kernel_rfl) rfl
 er := enters_of Tryz.func125 (by kernel_rfl) rfl
 ei := enters_of Tryz.func117 (by kernel_rfl) rfl
 em := enters_of Tryz.func118 (by kernel_rfl) rfl
theorem qkA (w0 w : World) (g : Nat) (hb : Below w0.heap.size w0 w) (hle : w0.heap.size ≤ g) : CmpB Tryz.prog 56 #[] (RcT.cells (w0 := w0)) (cfR RcT.rc) w g where
 eg := enters_of Tryz.func56 (by kernel_rfl) rfl
 call := fun W hW x y => by
  have hB := qeb hb hW hle
  exact qhK _ _ _ _ W (x.2.1.below hB) (y.2.1.below hB) x.2.2 y.2.2
theorem qe5 (a : Option Addr) (c : Nat) (fv : Value) (w : World) : Calls Tryz.prog 117 #[.slice a 0 c, .int .i64 0, .int .i64 0, fv] w fun e w' => e = .returned (.tuple #[]) ∧ w = w' := by
 go_enter Tryz.func117, Tryz.ntmps117
 go_wp2
 refine wp_loop_rounds 1 ?_
 rw [rounds_succ]
 go_wp2
 go_end0
 exact ⟨rfl, rfl⟩
theorem qhw (a : Option Addr) (c : Nat) (fv : Value) (w : World) : Calls Tryz.prog 102 #[.slice a 0 c, .int .i64 0, fv] w fun e w' => e = .returned (.tuple #[]) ∧ w = w' := by
 go_enter Tryz.func102, Tryz.ntmps102
 go_wp2
 refine wp_loop_rounds 1 ?_
 rw [rounds_succ]
 go_wp2_with (go_at_call 117; refine (qe5 _ _ _ _).mono ?_; rintro e w' ⟨rfl, rfl⟩)
 refine wp_loop_rounds 1 ?_
 rw [rounds_succ]
 go_wp2
 go_end0
 exact ⟨rfl, rfl⟩
def qh0 (w0 wb : World) (v : Value) (n : Nat) (rs : List Rc) (e : Ending) (w' : World) : Prop := e = .returned (.tuple #[]) ∧ ∃ css', SlK w' v css' ∧ css'.length = n ∧ Rcs w0 css' (sortM rs) ∧ Below wb.heap.size wb w'
theorem qg9 (w0 wb : World) (hb0 : Below w0.heap.size w0 wb) (v : Value) (css : List (List Value)) (rs : List Rc) (w : World) (hb : Below wb.heap.size wb w) (hR : Rcs w0 css rs) (hOK : ∀ r ∈ rs, RcOK r) (hown : OwnC 7 47 w wb.heap.size v css) (hl : css.length ≤ 1000000000000) :
 Calls Tryz.prog 102 #[v, .int .i64 css.length, .func (.func 56) #[] #[]] w (qh0 w0 wb v css.length rs) := by
 have hck : ∀ cs ∈ css, cs.length = 7 := fun cs hc => by
  obtain ⟨i, hi, rfl⟩ := List.mem_iff_getElem.1 hc
  exact (hR.2 i hi (by have := hR.1; omega)).len
 by_cases h0 : css = []
 ·subst h0
  have hr0 : rs = [] := List.eq_nil_of_length_eq_zero hR.1.symm
  subst hr0
  obtain ⟨a, c, rfl⟩ := hown.shape
  refine (qhw a c _ w).mono ?_
  rintro e w' ⟨rfl, rfl⟩
  exact ⟨rfl, [], SlK.of_own hown hck, rfl, ⟨rfl, fun i h1 => absurd h1 (Nat.not_lt_zero _)⟩, hb⟩
 ·obtain ⟨d, hd1, hd2, hd3⟩ := tagged w0 css rs hR hOK
  have hn : css.length = d.size := by rw [← hd1]; simp
  rcases id hown.2 with ⟨e, h00⟩ | ⟨g, cap, cur, rfl, hbg, hg, hcap, hm, hsz, htk⟩
  ·exact absurd (List.eq_nil_of_length_eq_zero h00) h0
  have hH : HoldsK RcT.cells 7 w g 0 d := qdh RcT.cells 7 (fun x => x.2.1.len) hown d hd1
  have hlt : g < w.heap.size := (Array.getElem?_eq_some_iff.1 hg).1
  have hc := sort_stable slay_here qjB RcT.cells (fun x => x.2.1.len) (fun x => x.2.1.one) (cfR RcT.rc) RcT.tg (qcs _) 56 #[] g 0 cap d w (qkA w0 w g (qB0 hb0 hb) (Nat.le_trans hb0.size hbg)) hH hlt hd3 (by omega)
  rw [← hn] at hc
  refine hc.mono ?_
  rintro e w' ⟨rfl, d', hp, hr, hs⟩
  have hsz' : d'.size = d.size := hp.1
  refine ⟨rfl, d'.toList.map RcT.cells, qdM RcT.cells 7 (fun x => x.2.1.len) d' hs.row (by omega) hcap hs.lt', by simp; omega, ?_, qeb hb hs.rest hbg⟩
  have hsrt := qiY RcT.rc RcT.tg hd3 hp hr
  rw [hd2] at hsrt
  rw [← hsrt]
  refine ⟨by simp, fun i h1 h2 => ?_⟩
  simp only [List.getElem_map]
  exact (d'.toList[i]'(by simpa using h1)).2.1
theorem qjg (w0 wb : World) (hb0 : Below w0.heap.size w0 wb) (v : Value) (css : List (List Value)) (rs : List Rc) (w : World) (hb : Below wb.heap.size wb w) (hR : Rcs w0 css rs) (hOK : ∀ r ∈ rs, RcOK r) (hown : OwnC 7 47 w wb.heap.size v css) (hl : css.length ≤ 1000000000000) :
 Calls Tryz.prog 83 #[v, .func (.func 56) #[] #[]] w (qh0 w0 wb v css.length rs) := by
 have hc := qg9 w0 wb hb0 v css rs w hb hR hOK hown hl
 obtain ⟨a, c, rfl⟩ := hown.shape
 clear hR hOK hown hb hb0
 obtain ⟨n, hn⟩ : ∃ n, css.length = n := ⟨_, rfl⟩
 rw [hn] at hc hl ⊢
 clear hn
 go_enter Tryz.func83, Tryz.ntmps83
 go_wp2_with fail
 refine hc.mono ?_
 rintro e w' ⟨rfl, css', h⟩
 go_wp2
 go_end0
 exact ⟨rfl, css', h⟩
def qiH (w0 w : World) (rs : List Rc) (e : Ending) (w' : World) : Prop := ∃ v' css', e = .returned v' ∧ SlK w' v' css' ∧ Rcs w0 css' (sortM rs) ∧ (∀ b, v'.ownBlock = some b → w.heap.size ≤ b) ∧ Below w.heap.size w w'
theorem qiz (w0 : World) (v : Value) (css : List (List Value)) (rs : List Rc) (w : World) (hb0 : Below w0.heap.size w0 w) (hA : SlK w v css) (hR : Rcs w0 css rs) (hOK : ∀ r ∈ rs, RcOK r) (hl : css.length ≤ 1000000000000) :
 Calls Tryz.prog 55 #[v, .func (.func 56) #[] #[]] w (qiH w0 w rs) := by
 have hck : ∀ cs ∈ css, cs.length = 7 ∧ ∀ u ∈ cs, u.oneCell' = true := fun cs hc => by
  obtain ⟨i, hi, rfl⟩ := List.mem_iff_getElem.1 hc
  have := hR.2 i hi (by have := hR.1; omega)
  exact ⟨this.len, this.one⟩
 have hc := qjy v css w hA (fun cs h => (hck cs h).1) (fun cs h => (hck cs h).2) hl
 have HS := qH0 (fun v' W (hown : OwnC 7 47 W w.heap.size v' css) (hb : Below w.heap.size w W) => qjg w0 w hb0 v' css rs W hb hR hOK hown hl)
 clear hA hR hOK hck hb0
 obtain ⟨n, hn⟩ : ∃ n, css.length = n := ⟨_, rfl⟩
 go_enter Tryz.func55, Tryz.ntmps55
 go_wp2_with fail
 refine hc.mono ?_
 rintro e w1 ⟨v', rfl, hown, hb1⟩
 have hs := HS.out v' w1 hown hb1
 have HBL := qH0 hown.base_le
 obtain ⟨a', c', rfl⟩ := hown.shape
 rw [hn] at hs HBL ⊢
 clear hown hb1 hc hn
 go_wp2_with fail
 refine hs.mono ?_
 rintro e w2 ⟨rfl, css', h1, h2, h3, h4⟩
 have H := qH0 (And.intro h1 (And.intro h3 h4))
 clear h1 h2 h3 h4 hs
 go_wp2
 go_ret
 exact ⟨_, css', rfl, H.out.1, H.out.2.1, HBL.out, H.out.2.2⟩
end Go.Proofs.YtnpnfajgphpabaaGreat
namespace Go.Proofs.YtnpnfajgphpabaaGreat
set_option maxRecDepth 100000
set_option maxHeartbeats 8000000
open Go.RowKit Go.Shelf
theorem SlK.elem {W : World} {a : Option Addr} {n c : Nat} {css : List (List Value)} (h : SlK W (.slice a n c) css) (hk : ∀ cs ∈ css, cs.length = 7) (h0 : 0 < css.length) : ∃ b off, a = some ⟨b, off, none⟩ ∧ b < W.heap.size ∧
 ∀ k (hlt : k < css.length) (u0 u1 u2 u3 u4 u5 u6 : Value), css[k] = [u0, u1, u2, u3, u4, u5, u6] → ∀ W', Below W.heap.size W W' →
  W'.cell? ⟨b, off + k * 7, none⟩ = some u0 ∧ W'.cell? ⟨b, off + k * 7 + 1, none⟩ = some u1 ∧ W'.cell? ⟨b, off + k * 7 + 2, none⟩ = some u2 ∧ W'.cell? ⟨b, off + k * 7 + 3, none⟩ = some u3 ∧ W'.cell? ⟨b, off + k * 7 + 4, none⟩ = some u4 ∧ W'.cell? ⟨b, off + k * 7 + 5, none⟩ = some u5 ∧ W'.cell? ⟨b, off + k * 7 + 6, none⟩ = some u6 := by
 obtain ⟨a', c', e, _, _, h3⟩ := h
 cases e
 rcases h3 with h3 | ⟨b, off, rfl, hb, hc⟩
 ·subst h3; simp at h0
 ·refine ⟨b, off, rfl, hb, fun k hlt u0 u1 u2 u3 u4 u5 u6 he W' hB => ?_⟩
  have key : ∀ j u, j < 7 → [u0, u1, u2, u3, u4, u5, u6][j]? = some u → W'.cell? ⟨b, off + k * 7 + j, none⟩ = some u := fun j u hj hu => by
   rw [hB.cell (p := ⟨b, off + k * 7 + j, none⟩) hb, Nat.add_assoc]
   refine hc (k * 7 + j) u ?_
   have hl : ∀ (l : List (List Value)) (k : Nat) (hlt : k < l.length), (∀ cs ∈ l, cs.length = 7) → l[k] = [u0, u1, u2, u3, u4, u5, u6] → l.flatten[k * 7 + j]? = some u := by
    intro l
    induction l with
    | nil => intro k hlt; simp at hlt
    | cons x r ih =>
     intro k hlt hk he
     rw [List.flatten_cons]
     cases k with
     | zero =>
      rw [List.getElem_cons_zero] at he
      rw [he, List.getElem?_append_left (by simp; omega)]
      simpa using hu
     | succ k =>
      rw [List.getElem_cons_succ] at he
      have hx : x.length = 7 := hk x (by simp)
      rw [List.getElem?_append_right (by rw [hx]; omega), hx, show (k + 1) * 7 + j - 7 = k * 7 + j by omega]
      exact ih k (by simpa using hlt) (fun cs hc => hk cs (by simp [hc])) he
   exact hl css k hlt hk he
  exact ⟨key 0 u0 (by omega) rfl, key 1 u1 (by omega) rfl, key 2 u2 (by omega) rfl, key 3 u3 (by omega) rfl, key 4 u4 (by omega) rfl, key 5 u5 (by omega) rfl, key 6 u6 (by omega) rfl⟩
theorem Rcs.ck {W : World} {css : List (List Value)} {rs : List Rc} (h : Rcs W css rs) : ∀ cs ∈ css, cs.length = 7 := fun cs hc => by
 obtain ⟨i, hi, rfl⟩ := List.mem_iff_getElem.1 hc
 exact (h.2 i hi (by have := h.1; omega)).len
theorem RcAt.shape {W : World} {cs : List Value} {r : Rc} (h : RcAt W cs r) : ∃ x0 x3 x4 x5 x6 : Option Addr × Nat × Nat, cs = [.slice x0.1 x0.2.1 x0.2.2, .int .u32 (r.ttl : Int), .int .i64 r.data.ty, .slice x3.1 x3.2.1 x3.2.2, .slice x4.1 x4.2.1 x4.2.2, .slice x5.1 x5.2.1 x5.2.2, .slice x6.1 x6.2.1 x6.2.2] := by
 obtain ⟨vo, vn, vu, vt, vr, rfl, h1, h2⟩ := h
 obtain ⟨un, uu, ut, ur, e, ⟨vs, g1, _⟩, g2, g3, g4⟩ := h2
 have e' : #[Value.int .i64 r.data.ty, vn, vu, vt, vr] = #[Value.int .i64 r.data.ty, un, uu, ut, ur] := by injection e
 simp only [Array.mk.injEq, List.cons.injEq, and_true, true_and] at e'
 obtain ⟨rfl, rfl, rfl, rfl⟩ := e'
 obtain ⟨a0, c0, rfl, _⟩ := nmAt_sl.1 h1
 obtain ⟨a3, c3, rfl, _⟩ := g1
 obtain ⟨a4, c4, rfl, _⟩ := g2
 obtain ⟨a5, c5, rfl, _⟩ := nmAt_sl.1 g3
 obtain ⟨a6, c6, rfl, _⟩ := g4
 exact ⟨(a0, _, c0), (a3, _, c3), (a4, _, c4), (a5, _, c5), (a6, _, c6), rfl⟩
theorem qf1 (u0 u2 u3 u4 u5 u6 : Value) (t : Int) (w : World) :
 Calls Tryz.prog 60 #[.agg #[u0, .int .u32 t, u2, u3, u4, u5, u6]] w fun e w' => e = .returned (.int .u32 t) ∧ Below w.heap.size w w' := by
 go_enter Tryz.func60, Tryz.ntmps60
 go_wp2
 go_ret
 exact ⟨rfl, (Below.refl _ w).alloc (qN0) _⟩
theorem qgw (a b : Nat) : minT a b = min a b := by unfold minT; split <;> omega
theorem qhy (t : Nat) (l : List Rc) (k : Nat) (hk : k < l.length) : leastM t (l.take (k + 1)) = minT (leastM t (l.take k)) l[k].ttl := by
 rw [List.take_succ_eq_append_getElem hk, qcD]
theorem qcl (y : Rc) (l : List Rc) : leastM y.ttl (y :: l) = leastM y.ttl l := by
 show l.foldl _ (minT y.ttl y.ttl) = _
 have : minT y.ttl y.ttl = y.ttl := by unfold minT; split <;> rfl
 rw [this]; rfl
theorem qjw (v : Value) (css : List (List Value)) (y : Rc) (rs : List Rc) (w : World) (hA : SlK w v css) (hR : Rcs w css (y :: rs)) (hOK : ∀ r ∈ y :: rs, RcOK r) (hl : css.length ≤ 1000000000000) :
 Calls Tryz.prog 59 #[v, .func (.func 60) #[] #[]] w fun e w' => e = .returned (.int .u32 (leastM y.ttl rs : Nat)) ∧ Below w.heap.size w w' := by
 rw [← qcl]
 have hlen := hR.1
 obtain ⟨a, c, rfl, hc1, hc2, hx⟩ := id hA
 obtain ⟨b, off, rfl, hb, hcell⟩ := hA.elem hR.ck (by rw [hlen]; simp)
 obtain ⟨n, hn⟩ : ∃ n, css.length = n := ⟨_, rfl⟩
 have HROW := qH0 hR.2
 have HCELL := qH0 hcell
 have HL := qH0 hlen
 have HOK := qH0 hOK
 have hnc : n ≤ c := by omega
 have hn0 : 0 < n := by rw [← hn, hlen]; simp
 rw [hn]
 have HN := qH0 hn
 have hy0 : ((y :: rs)[0]'(by simp)) = y := rfl
 have h0 := HROW.out 0 (by omega) (by simp)
 rw [hy0] at h0
 obtain ⟨⟨p0, q0, r0⟩, ⟨p3, q3, r3⟩, ⟨p4, q4, r4⟩, ⟨p5, q5, r5⟩, ⟨p6, q6, r6⟩, e0⟩ := h0.shape
 clear h0
 simp only at e0
 obtain ⟨c0, c1, c2, c3, c4, c5, c6⟩ := HCELL.out 0 (by rw [HN.out]; exact hn0) _ _ _ _ _ _ _ e0 w (qL0)
 rw [Nat.zero_mul, Nat.add_zero] at c0 c1 c2 c3 c4 c5 c6
 have hci := qf1 (.slice p0 q0 r0) (.int .i64 y.data.ty) (.slice p3 q3 r3) (.slice p4 q4 r4) (.slice p5 q5 r5) (.slice p6 q6 r6) (y.ttl : Int)
 have hyt : y.ttl < 2 ^ 32 := (HOK.out y (by simp)).2.1
 have HY : Hid (y.ttl < 2 ^ 32) := qH0 hyt
 clear hA hR hc1 hc2 hx hcell hlen hOK hn hy0 e0 hyt
 go_enter Tryz.func59, Tryz.ntmps59
 go_wp2_with fail
 refine (hci _).mono ?_
 rintro e w1 ⟨rfl, hb1⟩
 have HB1 := qH0 hb1
 clear hb1 hci c0 c1 c2 c3 c4 c5 c6
 go_wp2
 go_loopw [5, 15] (fun vt vi wr => ∃ (k t : Nat), vi = .int .i64 k ∧ vt = .int .u32 t ∧ k ≤ n ∧ Hid (t = leastM y.ttl ((y :: rs).take k)) ∧ Hid (Below w.heap.size w wr)) (fun _ vi _ => n - (intOf vi).toNat)
 case atStart => exact ⟨0, y.ttl, rfl, rfl, Nat.zero_le _, qH0 rfl, HB1⟩
 case round =>
  obtain ⟨k, t, rfl, rfl, hk, HT, HB⟩ := hrel
  by_cases hlt : k < n
  ·have hltz : (k : Int) < (n : Int) := by omega
   have hk1 : k < css.length := by have := HN.out; omega
   have hk2 : k < (y :: rs).length := by have := HL.out; omega
   have h0 := HROW.out k hk1 hk2
   obtain ⟨r, hr⟩ : ∃ r, (y :: rs)[k] = r := ⟨_, rfl⟩
   rw [hr] at h0
   have HRR := qH0 hr
   obtain ⟨⟨p0, q0, r0⟩, ⟨p3, q3, r3⟩, ⟨p4, q4, r4⟩, ⟨p5, q5, r5⟩, ⟨p6, q6, r6⟩, e0⟩ := h0.shape
   clear h0
   simp only at e0
   obtain ⟨c0, c1, c2, c3, c4, c5, c6⟩ := HCELL.out k hk1 _ _ _ _ _ _ _ e0 wr HB.out
   have hci := qf1 (.slice p0 q0 r0) (.int .i64 r.data.ty) (.slice p3 q3 r3) (.slice p4 q4 r4) (.slice p5 q5 r5) (.slice p6 q6 r6) (r.ttl : Int)
   have HK12 := qH0 (And.intro hk1 hk2)
   clear e0 hr
   obtain ⟨m, hm⟩ : ∃ m, minT t r.ttl = m := ⟨_, rfl⟩
   have hmz : min (t : Int) (r.ttl : Int) = (m : Int) := by rw [← hm, qgw]; omega
   have HMM := qH0 hm
   clear hm
   go_wp2_with fail
   refine (hci _).mono ?_
   rintro e w2 ⟨rfl, hb2⟩
   have HB2 := qH0 hb2
   clear hb2 hci c0 c1 c2 c3 c4 c5 c6
   go_wp2
   go_roundw
   case measure => simp [intOf]; omega
   case rel =>
    refine ⟨k + 1, m, by go_num, rfl, by omega, qH0 ?_, qH0 ?_⟩
    ·rw [qhy y.ttl (y :: rs) k HK12.out.2, HRR.out, ← HT.out, HMM.out]
    ·have h1 := (HB.out.alloc (o := Obj.cells #[.slice p0 q0 r0, .int .u32 (r.ttl : Int), .int .i64 r.data.ty, .slice p3 q3 r3, .slice p4 q4 r4, .slice p5 q5 r5, .slice p6 q6 r6] 47) HB.out.size)
     exact qB0 h1 HB2.out
  ·obtain rfl : k = n := by omega
   go_wp2
   go_ret
   have e := HT.out
   rw [List.take_of_length_le (by have := HL.out; have := HN.out; omega)] at e
   exact ⟨by rw [e]; rfl, HB.out⟩
theorem qes {W : World} {g : Nat} {l : List Value} {T : TypeId} (h : W.heap[g]? = some (.cells l.toArray T)) : SlAt W (.slice (some ⟨g, 0, none⟩) l.length l.length) l := by
 refine ⟨_, _, rfl, qN0, (fun e => by cases e), .inr ⟨g, 0, rfl, qaa h, fun j hj => ?_⟩⟩
 have := kcell h j l[j] (by simp)
 rw [Nat.zero_add]; exact this
theorem qay {W : World} {g : Nat} {css : List (List Value)} {T : TypeId} (h : W.heap[g]? = some (.cells css.flatten.toArray T)) : SlK W (.slice (some ⟨g, 0, none⟩) css.length css.length) css := by
 refine ⟨_, _, rfl, qN0, (fun e => by cases e), .inr ⟨g, 0, rfl, qaa h, fun j u hj => ?_⟩⟩
 have := kcell h j u (by simpa using hj)
 rw [Nat.zero_add]; exact this
theorem qcC (K t : Nat) (u : Value) (ht : t < K) : ∀ (css : List (List Value)), (∀ cs ∈ css, cs.length = K) → ∀ (k : Nat) (h : k < css.length), (css.set k (css[k].set t u)).flatten = css.flatten.set (k * K + t) u
 | [], _, k, h => by simp at h
 | c :: r, hk, 0, _ => by
  have hc := hk c (by simp)
  simp only [List.getElem_cons_zero, List.set_cons_zero, List.flatten_cons, Nat.zero_mul, Nat.zero_add]
  rw [List.set_append_left t u (by omega)]
 | c :: r, hk, k + 1, h => by
  have hc := hk c (by simp)
  have ih := qcC K t u ht r (fun cs hcs => hk cs (by simp [hcs])) k (by simpa using h)
  simp only [List.getElem_cons_succ, List.set_cons_succ, List.flatten_cons]
  rw [ih, Nat.add_mul, Nat.one_mul]
  rw [List.set_append_right ((k * K + K + t)) u (by omega)]
  congr 2
  omega
theorem OwnC.put {T : TypeId} {W : World} {base g n c : Nat} {css : List (List Value)} (h : OwnC 7 T W base (.slice (some ⟨g, 0, none⟩) n c) css) (hk : ∀ cs ∈ css, cs.length = 7) (k : Nat) (hlt : k < css.length) (t : Nat) (ht : t < 7) (u : Value) :
 OwnC 7 T (W.setCell ⟨g, k * 7 + t, none⟩ u) base (.slice (some ⟨g, 0, none⟩) n c) (css.set k (css[k].set t u)) := by
 obtain ⟨hl, h⟩ := h
 rcases h with ⟨e, _⟩ | ⟨g', cap, cur, e, hb, hg, hc, hm, hsz, htk⟩
 ·cases e
 ·cases e
  have hfl : ((css.set k (css[k].set t u)).flatMap fun cs => cs) = (css.flatMap fun cs => cs).set (k * 7 + t) u := by
   rw [qbG, qbG, qcC 7 t u ht css hk k hlt]
  refine ⟨by rw [hfl, List.length_set, List.length_set]; exact hl, .inr ⟨g, c, cur.setIfInBounds (k * 7 + t) u, by rw [List.length_set], hb, kset hg _ u, by rw [List.length_set]; exact hc, hm, by simpa using hsz, ?_⟩⟩
  rw [hfl, List.length_set, ← htk, Array.toList_setIfInBounds]
  rw [List.take_set]
theorem SlK.takeK {W : World} {a : Option Addr} {n c : Nat} {css : List (List Value)} (h : SlK W (.slice a n c) css) (k : Nat) (hk : k ≤ n) : SlK W (.slice a k c) (css.take k) := by
 obtain ⟨a', c', e, h1, h2, h3⟩ := h
 cases e
 have hl : (css.take k).length = k := by rw [List.length_take]; omega
 refine ⟨a, c, by rw [hl], by rw [hl]; omega, h2, ?_⟩
 rcases h3 with h3 | ⟨b, off, e, hlt, hc⟩
 ·left; rw [h3]; simp
 ·right
  refine ⟨b, off, e, hlt, fun j u hj => hc j u ?_⟩
  have hsplit : css.flatten = (css.take k).flatten ++ (css.drop k).flatten := by rw [← List.flatten_append, List.take_append_drop]
  rw [hsplit, List.getElem?_append_left (List.getElem?_eq_some_iff.1 hj).1]
  exact hj
theorem SlK.dropK {W : World} {b off n c : Nat} {css : List (List Value)} (h : SlK W (.slice (some ⟨b, off, none⟩) n c) css) (h7 : ∀ cs ∈ css, cs.length = 7) (k : Nat) (hk : k ≤ n) : SlK W (.slice (some ⟨b, off + k * 7, none⟩) (n - k) (c - k)) (css.drop k) := by
 obtain ⟨a', c', e, h1, h2, h3⟩ := h
 cases e
 have hl : (css.drop k).length = css.length - k := List.length_drop
 refine ⟨_, _, by rw [hl], by rw [hl]; omega, (fun e => by cases e), ?_⟩
 rcases h3 with h3 | ⟨b', off', e, hlt, hc⟩
 ·left; rw [h3]; simp
 ·cases e
  right
  refine ⟨b, off + k * 7, rfl, hlt, fun j u hj => ?_⟩
  rw [Nat.add_assoc]
  refine hc _ _ ?_
  have hsplit : css.flatten = (css.take k).flatten ++ (css.drop k).flatten := by rw [← List.flatten_append, List.take_append_drop]
  have hz : (css.take k).flatten.length = k * 7 := by
   rw [qbd _ (fun cs hcs => h7 cs (List.mem_of_mem_take hcs)), List.length_take]; congr 1; omega
  rw [hsplit, List.getElem?_append_right (by omega), hz, Nat.add_sub_cancel_left]
  exact hj
theorem qga {S T : TypeId} {k bytes : Nat} {o : Oper} {a : Act} {K : Act → World → Prop} {Q : Exit → Act → World → Prop} (W : World) (s x : Operand) (hE : ElemK k T S bytes) (hk0 : 0 < k)
 (ho : o.op = .call { callee := .builtin .append, args := #[s, x], argTypes := #[S, S] })
 (base : Nat) (v : Value) (xs : List (List Value)) (hs : a.eval s = v) (hown : OwnC k T W base v xs)
 (src : Value) (ys : List (List Value)) (hx : a.eval x = src) (hsrc : SlK W src ys) (hyk : ∀ cs ∈ ys, cs.length = k) (hy1 : ∀ cs ∈ ys, ∀ u ∈ cs, u.oneCell' = true)
 (hbase : base ≤ W.heap.size) (hk : xs.length + ys.length ≤ maxLen) (hk2 : (xs.length + ys.length) * bytes ≤ 140737488355328)
 (h : ∀ v' w', OwnC k T w' base v' (xs ++ ys) → W.grownBy w' v.ownBlock → K (a.put o.dst v') w') :
 o.wp Tryz.prog a W K Q := by
 obtain ⟨ht, i, z, hi, hz, hz1, hz2, hzc⟩ := hE
 obtain ⟨a0, c0, rfl, h1, h2, h3⟩ := hsrc
 have hlen := qbd ys hyk
 cases a0 with
 | none =>
  have e3 := h2 rfl
  subst e3
  have e4 : ys = [] := List.eq_nil_of_length_eq_zero (by omega)
  subst e4
  have hrun := run_append_owned_none (P := Tryz.prog) (w := W) base S o.type _ i k ht hi v _ _ hown
  have hK := h v W (by rw [List.append_nil]; exact hown) ⟨rfl, rfl, rfl, qN0, fun _ _ _ => rfl⟩
  unfold Oper.wp
  simp [execOp, ho, resolve, invoke, builtin, hs, hx, hrun, Result.andThen]
  exact hK
 | some ad =>
  have hcell : ∀ j u, ys.flatten[j]? = some u → W.cell? (ad.add j) = some u := by
   intro j u hj
   rcases h3 with h3 | ⟨b, off, ea, _, hc⟩
   ·subst h3; simp at hj
   ·cases ea; rw [Addr.add_lit]; exact hc j u hj
  refine wp_append_own W s x S ho base _ i z k bytes ht hi hz hz1 hz2 hzc hk0 v xs.length (xs.flatMap fun cs => cs) hs hown ad ys.length c0 ys.flatten hx hlen hcell (by intro u hu; obtain ⟨y, hy, hu⟩ := List.mem_flatten.1 hu; exact hy1 y hy u hu) hk hk2 hbase ?_
  intro v' w' g1 g2 _
  refine h v' w' ?_ g2
  unfold OwnC OwnK
  rw [List.length_append, List.flatMap_append, qbG ys]
  exact g1
theorem qbM {S T : TypeId} {k bytes : Nat} {ops : Array Oper} {o : Oper} {a : Act} {K : Act → World → Prop} {Q : Exit → Act → World → Prop} {E : Prop} (W : World) (hgd : o.guard = none) (s x : Operand) (hE : ElemK k T S bytes) (hk0 : 0 < k)
 (ho : o.op = .call { callee := .builtin .append, args := #[s, x], argTypes := #[S, S] })
 (base : Nat) (v : Value) (xs : List (List Value)) (hs : a.eval s = v) (hown : OwnC k T W base v xs)
 (src : Value) (ys : List (List Value)) (hx : a.eval x = src) (hsrc : SlK W src ys) (hyk : ∀ cs ∈ ys, cs.length = k) (hy1 : ∀ cs ∈ ys, ∀ u ∈ cs, u.oneCell' = true)
 (hbase : base ≤ W.heap.size) (hk : xs.length + ys.length ≤ maxLen) (hk2 : (xs.length + ys.length) * bytes ≤ 140737488355328)
 (h : ∀ v' w', OwnC k T w' base v' (xs ++ ys) → W.grownBy w' v.ownBlock → K (a.put o.dst v') w') :
 if Region.wanted o (yielded ops a.tmps) = true then Oper.wp Tryz.prog o a W K Q else E := by
 have hw : Region.wanted o (yielded ops a.tmps) = true := by simp [Region.wanted, hgd]
 rw [if_pos hw]
 exact qga W s x hE hk0 ho base v xs hs hown src ys hx hsrc hyk hy1 hbase hk hk2 h
end Go.Proofs.YtnpnfajgphpabaaGreat
namespace Go.Proofs.YtnpnfajgphpabaaGreat
set_option maxRecDepth 100000
set_option maxHeartbeats 8000000
open Go.RowKit Go.Shelf
abbrev Seg (n : Nat) := { x : Nat × Nat // x.1 < x.2 ∧ x.2 ≤ n }
def segV (g off c : Nat) {n : Nat} (x : Seg n) : Array Value := #[.slice (some ⟨g, off + x.1.1 * 7, none⟩) (x.1.2 - x.1.1) (c - x.1.1)]
structure RunW (b1 b2 : Nat) (a : Option Addr) (g off n c : Nat) (css : List (List Value)) (rs : List Rc) (Kp : World → World → Prop) (R : World → Prop) : Prop where
 c1 : ∀ W, R W → W.cell? ⟨b1, 0, none⟩ = some (.slice a n c)
 c2 : ∀ W, R W → W.cell? ⟨b2, 0, none⟩ = some (.func (.func 57) #[] #[])
 ha : 0 < n → a = some ⟨g, off, none⟩
 el : ∀ W, R W → ∀ k (hlt : k < css.length) (u0 u1 u2 u3 u4 u5 u6 : Value), css[k] = [u0, u1, u2, u3, u4, u5, u6] →
  W.cell? ⟨g, off + k * 7, none⟩ = some u0 ∧ W.cell? ⟨g, off + k * 7 + 1, none⟩ = some u1 ∧ W.cell? ⟨g, off + k * 7 + 2, none⟩ = some u2 ∧ W.cell? ⟨g, off + k * 7 + 3, none⟩ = some u3 ∧ W.cell? ⟨g, off + k * 7 + 4, none⟩ = some u4 ∧ W.cell? ⟨g, off + k * 7 + 5, none⟩ = some u5 ∧ W.cell? ⟨g, off + k * 7 + 6, none⟩ = some u6
 same : ∀ W, R W → ∀ i j (hi : i < css.length) (hj : j < css.length) (hi' : i < rs.length) (hj' : j < rs.length), Calls Tryz.prog 57 #[.agg css[i].toArray, .agg css[j].toArray] W fun e W' => e = .returned (.bool (sameR rs[i] rs[j])) ∧ Below W.heap.size W W'
 below : ∀ W W', R W → Below W.heap.size W W' → R W'
 kp : ∀ W W', R W → Kp W W' → R W'
 shape : ∀ k (hk : k < css.length), ∃ (t x : Int) (x0 x3 x4 x5 x6 : Option Addr × Nat × Nat), css[k] = [.slice x0.1 x0.2.1 x0.2.2, .int .u32 t, .int .i64 x, .slice x3.1 x3.2.1 x3.2.2, .slice x4.1 x4.2.1 x4.2.2, .slice x5.1 x5.2.1 x5.2.2, .slice x6.1 x6.2.1 x6.2.2]
theorem qbg (W : World) : Below W.heap.size W W.drew := ⟨rfl, rfl, rfl, qN0, fun _ _ => rfl⟩
section
attribute [local go_sem] Oper.semAt_some
theorem qjL (nf : Nat) (hnf : 3 ≤ nf) (l b1 b2 : Nat) (a : Option Addr) (g off n c : Nat) (hnc : n ≤ c) (hn63 : n ≤ 1000000000000) (css : List (List Value)) (rs : List Rc) (hcl : css.length = n) (hrl : rs.length = n) (Kp : World → World → Prop) (R : World → Prop) (H : RunW b1 b2 a g off n c css rs Kp R)
 (J Jx : List (Seg n) → World → Prop) (hJ : ∀ pre W W', J pre W → Below W.heap.size W W' → J pre W')
 (hY : ∀ pre x W, J pre W → pre.length < n → YieldAt Fence.wide (nf - 1) Tryz.prog l (segV g off c x) W fun e W' =>
   (e = .returned (.bool true) ∧ J (pre ++ [x]) W' ∧ Kp W W') ∨ (e = .returned (.bool false) ∧ Jx (pre ++ [x]) W'))
 (W : World) (hR : R W) (h0 : J [] W) :
 CallsIn Fence.wide nf Tryz.prog 81 #[.func (.yield l) #[] #[], .pointer (some ⟨b1, 0, none⟩), .pointer (some ⟨b2, 0, none⟩)] W fun e W' => (∃ v, e = .returned v) ∧
  ((∃ ys : List (Seg n), ys.map (·.1) = segs rs ∧ J ys W') ∨ (∃ pre : List (Seg n), Jx pre W')) := by
 have hn1' : 1 ≤ nf := by omega
 have HJJ := qH0 hJ
 have HCL := qH0 hcl; have HRL := qH0 hrl
 clear hJ
 have HR0 := qH0 hR
 have HJ0 := qH0 h0
 clear hR h0
 refine callsIn_of_wp Tryz.func81 rfl trivial ?_ rfl
 simp only [Tryz.ntmps81, List.size_toArray, List.length_cons, List.length_nil, Nat.reduceAdd, Nat.reduceSub, Array.replicate_succ, Array.replicate_zero, List.push_toArray, List.append_toArray, List.nil_append, List.cons_append]
 gi_wp2
 gi_loopw [4] (fun v4 wr => ∃ (s : Nat) (pre : List (Seg n)), v4 = .int .i64 s ∧ s ≤ n ∧ Hid (pre.map (·.1) ++ leftM rs s = segs rs ∧ pre.length ≤ s) ∧ Hid (J pre wr) ∧ Hid (R wr))
  (fun v4 _ => n - (intOf v4).toNat)
 case atStart => exact ⟨0, [], rfl, Nat.zero_le _, qH0 ⟨rfl, Nat.zero_le _⟩, HJ0, HR0⟩
 case round =>
  obtain ⟨s, pre, rfl, hs, HP, HJ, HR⟩ := hrel
  have hc0 := H.c1 _ HR.out
  by_cases hlt : s < n
  ·have ha := H.ha (by omega)
   subst ha
   have hltz : (s : Int) < (n : Int) := by omega
   have hsr : s < rs.length := by omega
   have HRJ0 := qH0 (And.intro HR.out HJ.out)
   clear HR HJ
   gi_wp2
   clear hc0
   rename World => w1
   gi_loopw [5] (fun v5 wr => ∃ (e : Nat), v5 = .int .i64 e ∧ s + 1 ≤ e ∧ e ≤ n ∧ Hid (e ≤ nxtM rs s) ∧ Hid (R wr ∧ J pre wr))
    (fun v5 _ => n - (intOf v5).toNat)
   case atStart => exact ⟨s + 1, by go_num, qN0, by omega, qH0 (by have := qcH hsr; omega), HRJ0⟩
   case round =>
    obtain ⟨e, rfl, he1, he2, HE, HRJ⟩ := hrel
    have hne : Nonempty (WIn (fun W => R W ∧ J pre W)) := ⟨⟨_, HRJ.out⟩⟩
    have k1 : ∀ p : WIn (fun W => R W ∧ J pre W), p.w.cell? ⟨b1, 0, none⟩ = some (.slice (some ⟨g, off, none⟩) n c) := fun p => H.c1 _ p.ok.1
    have k2 : ∀ p : WIn (fun W => R W ∧ J pre W), p.w.cell? ⟨b2, 0, none⟩ = some (.func (.func 57) #[] #[]) := fun p => H.c2 _ p.ok.1
    have HD : Hid (∀ W, R W ∧ J pre W → ∀ W', Below W.heap.size W W' → R W' ∧ J pre W') := qH0 fun W h W' hb => ⟨H.below _ _ h.1 hb, HJJ.out _ _ _ h.2 hb⟩
    by_cases hen : e < n
    ·have henz : (e : Int) < (n : Int) := by omega
     obtain ⟨t0, y0, ⟨p0, q0, r0⟩, ⟨p3, q3, r3⟩, ⟨p4, q4, r4⟩, ⟨p5, q5, r5⟩, ⟨p6, q6, r6⟩, e0⟩ := H.shape s (by omega)
     obtain ⟨t1, y1, ⟨p0', q0', r0'⟩, ⟨p3', q3', r3'⟩, ⟨p4', q4', r4'⟩, ⟨p5', q5', r5'⟩, ⟨p6', q6', r6'⟩, e1⟩ := H.shape e (by omega)
     simp only at e0 e1
     have f0 := fun p : WIn (fun W => R W ∧ J pre W) => (H.el _ p.ok.1 s (by omega) _ _ _ _ _ _ _ e0)
     have f1 := fun p : WIn (fun W => R W ∧ J pre W) => (H.el _ p.ok.1 e (by omega) _ _ _ _ _ _ _ e1)
     have g0 := fun p => (f0 p).1; have g1 := fun p => (f0 p).2.1; have g2 := fun p => (f0 p).2.2.1; have g3 := fun p => (f0 p).2.2.2.1; have g4 := fun p => (f0 p).2.2.2.2.1; have g5 := fun p => (f0 p).2.2.2.2.2.1; have g6 := fun p => (f0 p).2.2.2.2.2.2
     have j0 := fun p => (f1 p).1; have j1 := fun p => (f1 p).2.1; have j2 := fun p => (f1 p).2.2.1; have j3 := fun p => (f1 p).2.2.2.1; have j4 := fun p => (f1 p).2.2.2.2.1; have j5 := fun p => (f1 p).2.2.2.2.2.1; have j6 := fun p => (f1 p).2.2.2.2.2.2
     have hcg := fun p : WIn (fun W => R W ∧ J pre W) => CallsIn.cls (C := fun W => R W ∧ J pre W) (callsIn_wide (n := nf - 1) |>.2 ((H.same _ p.ok.1 s e (by omega) (by omega) (by omega) (by omega)).mono fun _ _ ⟨hq, hb⟩ => ⟨hq, HD.out _ p.ok _ hb⟩))
     rw [e0, e1] at hcg
     obtain ⟨sm, hsm⟩ : ∃ sm, sameR (rs[s]'(by omega)) (rs[e]'(by omega)) = sm := ⟨_, rfl⟩
     rw [hsm] at hcg
     have HSM := qH0 hsm
     have hn1 : 1 ≤ nf - 1 := by omega
     clear f0 f1 e0 e1 hsm
     cases sm
     ·have HWHY : Hid (e = rs.length ∨ ∃ he : e < rs.length, sameR (rs[s]'hsr) (rs[e]'he) = false) := qH0 (Or.inr ⟨by omega, HSM.out⟩)
      gi_wp2_with fail
      refine qbI (fun W => R W ∧ J pre W) rfl qae (by kernel_rfl) (HD.out _ HRJ.out _ (qbg _)) ?_
      repeat (gi_big_quiet_step (fail))
      refine wpQuietIn_step (fun _ _ _ _ => trivial) (fun K hK => ?_)
      go_simp
      apply Exists.intro
      refine ⟨fun q => (by first | exact hcg q | exact ⟨fun _ => (by omega), hcg q⟩), hK _ ?_⟩
      clear hK K
      repeat (gi_big_quiet_step (fail))
      refine wpQuietIn_nil ?_
      rintro _ ⟨p, rfl⟩
      have HRJ := qH0 p.ok
      clear k1 k2 g0 g1 g2 g3 g4 g5 g6 j0 j1 j2 j3 j4 j5 j6 hcg
      have hcs : ¬ c = s := by omega
      have hnx := qfT (rs := rs) (s := s) (e := e) (by omega) he1 HE.out (HWHY.out)
      obtain ⟨HRp, hJp⟩ := HRJ.out
      have hx : s < e ∧ e ≤ n := ⟨by omega, by omega⟩
      obtain ⟨fn, tmps, assign, body, hy, hR⟩ := hY pre ⟨(s, e), hx⟩ p.w hJp (by have := HP.out.2; omega)
      unfold segV at hy
      simp only at hy
      have hc1 := H.c1 _ HRp
      have HRR := qH0 hR
      have HNX := qH0 hnx
      have HX := qH0 hx
      have HRP := qH0 HRp
      have hse : (s : Int) ≤ (e : Int) := by omega
      have hec : (e : Int) ≤ (c : Int) := by omega
      have hes : ((e : Int) - (s : Int)).toNat = e - s := by omega
      have hcz : ((c : Int) - (s : Int)).toNat = c - s := by omega
      clear hR hnx HRp hJp HRJ
      gi_wp2
      refine HRR.out.mono ?_
      rintro e' W3 (⟨rfl, hJ3, hk3⟩ | ⟨rfl, hJx3⟩)
      ·have HR3 := qH0 (H.kp _ _ HRP.out hk3)
       have HJ3 := qH0 hJ3
       clear hJ3 hk3 HRR
       gi_wp2
       go_roundw
       case measure => simp [intOf]; omega
       case rel =>
        refine ⟨e, pre ++ [⟨(s, e), HX.out⟩], rfl, by omega, qH0 ⟨?_, by have := HP.out.2; simp; omega⟩, HJ3, HR3⟩
        have hp := HP.out.1
        rw [qc7 (by omega), ← HNX.out] at hp
        simpa using hp
      ·gi_wp2
       refine bodyPost_ret (results_none rfl _ _ _) rfl ?_
       exact ⟨⟨_, rfl⟩, .inr ⟨_, hJx3⟩⟩
     ·have hmo : e + 1 ≤ nxtM rs s := qjx hsr he1 HE.out (by omega) HSM.out
      have HMO := qH0 hmo
      clear hmo
      gi_wp2_with fail
      refine qbI (fun W => R W ∧ J pre W) rfl qae (by kernel_rfl) (HD.out _ HRJ.out _ (qbg _)) ?_
      repeat (gi_big_quiet_step (fail))
      refine wpQuietIn_step (fun _ _ _ _ => trivial) (fun K hK => ?_)
      go_simp
      apply Exists.intro
      refine ⟨fun q => (by first | exact hcg q | exact ⟨fun _ => (by omega), hcg q⟩), hK _ ?_⟩
      clear hK K
      repeat (gi_big_quiet_step (fail))
      refine wpQuietIn_nil ?_
      rintro _ ⟨p, rfl⟩
      have HRJ := qH0 p.ok
      clear k1 k2 g0 g1 g2 g3 g4 g5 g6 j0 j1 j2 j3 j4 j5 j6 hcg
      gi_wp2
      go_roundw
      case measure => simp [intOf]; omega
      case rel => exact ⟨e + 1, by go_num, by omega, by omega, HMO, HRJ⟩
    ·obtain rfl : n = e := by omega
     have HWHY : Hid (n = rs.length ∨ ∃ he : n < rs.length, sameR (rs[s]'hsr) (rs[n]'he) = false) := qH0 (Or.inl (by omega))
     gi_wp2_with fail
     refine qbI (fun W => R W ∧ J pre W) rfl qae (by kernel_rfl) (HD.out _ HRJ.out _ (qbg _)) ?_
     repeat (gi_big_quiet_step (fail))
     refine wpQuietIn_step (fun _ _ _ _ => trivial) (fun K hK => ?_)
     go_simp
     refine hK _ ?_
     clear hK K
     repeat (gi_big_quiet_step (fail))
     refine wpQuietIn_nil ?_
     rintro _ ⟨p, rfl⟩
     have HRJ := qH0 p.ok
     clear k1 k2
     have hcs : ¬ c = s := by omega
     have hnx := qfT (rs := rs) (s := s) (e := n) (by omega) he1 HE.out (HWHY.out)
     obtain ⟨HRp, hJp⟩ := HRJ.out
     have hx : s < n ∧ n ≤ n := ⟨by omega, by omega⟩
     obtain ⟨fn, tmps, assign, body, hy, hR⟩ := hY pre ⟨(s, n), hx⟩ p.w hJp (by have := HP.out.2; omega)
     unfold segV at hy
     simp only at hy
     have hc1 := H.c1 _ HRp
     have HRR := qH0 hR
     have HNX := qH0 hnx
     have HX := qH0 hx
     have HRP := qH0 HRp
     have hse : (s : Int) ≤ (n : Int) := by omega
     have hec : (n : Int) ≤ (c : Int) := by omega
     have hes : ((n : Int) - (s : Int)).toNat = n - s := by omega
     have hcz : ((c : Int) - (s : Int)).toNat = c - s := by omega
     clear hR hnx HRp hJp HRJ
     gi_wp2
     refine HRR.out.mono ?_
     rintro e' W3 (⟨rfl, hJ3, hk3⟩ | ⟨rfl, hJx3⟩)
     ·have HR3 := qH0 (H.kp _ _ HRP.out hk3)
      have HJ3 := qH0 hJ3
      clear hJ3 hk3 HRR
      gi_wp2
      go_roundw
      case measure => simp [intOf]; omega
      case rel =>
       refine ⟨n, pre ++ [⟨(s, n), HX.out⟩], rfl, by omega, qH0 ⟨?_, by have := HP.out.2; simp; omega⟩, HJ3, HR3⟩
       have hp := HP.out.1
       rw [qc7 (by omega), ← HNX.out] at hp
       simpa using hp
     ·gi_wp2
      refine bodyPost_ret (results_none rfl _ _ _) rfl ?_
      exact ⟨⟨_, rfl⟩, .inr ⟨_, hJx3⟩⟩
  ·obtain rfl : s = n := by omega
   gi_wp2
   go_end0
   have hp := HP.out.1
   rw [qfQ rs (by omega), List.append_nil] at hp
   exact ⟨⟨_, rfl⟩, .inl ⟨pre, hp, HJ.out⟩⟩
end
end Go.Proofs.YtnpnfajgphpabaaGreat
