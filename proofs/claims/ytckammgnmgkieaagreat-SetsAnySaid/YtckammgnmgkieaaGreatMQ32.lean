/-
  A row of records cut into sets: plain facts. (The runs' facts are XRunP's, with another word for 'alike'.)
-/
import Derived.Test.YtckammgnmgkieaaGreatMQ10
import Derived.Test.YtckammgnmgkieaaGreatMQ21
namespace Go.Proofs.YtckammgnmgkieaaGreat
set_option maxRecDepth 20000
open Go.RowKit Go.Shelf
set_option linter.unusedVariables false

structure St where
  owner : Nm
  ty : Int
  ttl : Nat
  data : List Dat
def belM (o : Nm) (t : Int) (r : Rc) : Bool := decide (r.data.ty = t) && sameN r.owner o
def belR (y r : Rc) : Bool := belM y.owner y.data.ty r
theorem belR_refl (y : Rc) : belR y y = true := by simp [belR, belM, sameN_refl]
def stR (y : Rc) (r : List Rc) : St := ⟨y.owner, y.data.ty, leastM y.ttl r, y.data :: r.map Rc.data⟩
def setsF : Nat → List Rc → List St
  | 0, _ => []
  | _, [] => []
  | n + 1, y :: r => stR y (r.takeWhile (belR y)) :: setsF n (r.dropWhile (belR y))
theorem setsF_more : ∀ (n m : Nat) (l : List Rc), l.length ≤ n → l.length ≤ m → setsF n l = setsF m l
  | 0, 0, l, _, _ => rfl
  | 0, m + 1, l, h, _ => by
    have : l = [] := List.eq_nil_of_length_eq_zero (by omega)
    subst this; rfl
  | n + 1, 0, l, _, h => by
    have : l = [] := List.eq_nil_of_length_eq_zero (by omega)
    subst this; rfl
  | n + 1, m + 1, [], _, _ => rfl
  | n + 1, m + 1, y :: r, h1, h2 => by
    have hl : (r.dropWhile (belR y)).length ≤ r.length := (List.dropWhile_sublist _).length_le
    simp only [List.length_cons] at h1 h2
    simp only [setsF]
    rw [setsF_more n m _ (by omega) (by omega)]
def setsM (l : List Rc) : List St := setsF l.length l
theorem setsM_cons (y : Rc) (r : List Rc) : setsM (y :: r) = stR y (r.takeWhile (belR y)) :: setsM (r.dropWhile (belR y)) := by
  have hl : (r.dropWhile (belR y)).length ≤ r.length := (List.dropWhile_sublist _).length_le
  unfold setsM
  simp only [List.length_cons, setsF]
  rw [setsF_more r.length _ _ hl (Nat.le_refl _)]
theorem setsM_nil : setsM [] = [] := rfl

def nxtS (rs : List Rc) (s : Nat) : Nat := match rs.drop s with
  | [] => s + 1
  | y :: r => s + 1 + (r.takeWhile (belR y)).length
def segsH : Nat → Nat → List Rc → List (Nat × Nat)
  | 0, _, _ => []
  | f + 1, s, rs => if s < rs.length then (s, nxtS rs s) :: segsH f (nxtS rs s) rs else []
def segsS (rs : List Rc) : List (Nat × Nat) := segsH rs.length 0 rs
theorem nxtS_at {rs : List Rc} {s : Nat} (hs : s < rs.length) : nxtS rs s = s + 1 + ((rs.drop (s + 1)).takeWhile (belR rs[s])).length := by
  unfold nxtS
  rw [List.drop_eq_getElem_cons hs]
theorem nxtS_lt {rs : List Rc} {s : Nat} (hs : s < rs.length) : s < nxtS rs s ∧ nxtS rs s ≤ rs.length := by
  rw [nxtS_at hs]
  have := (takeWhile_len (p := belR rs[s]) (rs.drop (s + 1))).1
  rw [List.length_drop] at this
  omega
theorem nxtS_more {rs : List Rc} {s e : Nat} (hs : s < rs.length) (h1 : s + 1 ≤ e) (h2 : e ≤ nxtS rs s) (he : e < rs.length) (hsame : belR rs[s] rs[e] = true) : e + 1 ≤ nxtS rs s := by
  rw [nxtS_at hs] at h2 ⊢
  obtain ⟨t1, t2, t3⟩ := takeWhile_len (p := belR rs[s]) (rs.drop (s + 1))
  rcases Nat.lt_or_ge e (s + 1 + ((rs.drop (s + 1)).takeWhile (belR rs[s])).length) with h | h
  · omega
  · exfalso
    obtain ⟨j, rfl⟩ : ∃ j, e = s + 1 + j := ⟨e - (s + 1), by omega⟩
    have e1 : ((rs.drop (s + 1)).takeWhile (belR rs[s])).length = j := by omega
    have := t3 (by rw [List.length_drop]; omega)
    simp only [e1, List.getElem_drop] at this
    rw [hsame] at this; cases this
theorem nxtS_stop {rs : List Rc} {s e : Nat} (hs : s < rs.length) (h1 : s + 1 ≤ e) (h2 : e ≤ nxtS rs s) (h : e = rs.length ∨ ∃ he : e < rs.length, belR rs[s] rs[e] = false) : e = nxtS rs s := by
  have hn := nxtS_lt hs
  rcases h with h | ⟨he, h⟩
  · omega
  · rcases Nat.lt_or_ge e (nxtS rs s) with h3 | h3
    · exfalso
      rw [nxtS_at hs] at h3
      obtain ⟨t1, t2, t3⟩ := takeWhile_len (p := belR rs[s]) (rs.drop (s + 1))
      obtain ⟨j, rfl⟩ : ∃ j, e = s + 1 + j := ⟨e - (s + 1), by omega⟩
      have := t2 j (by omega) (by rw [List.length_drop]; omega)
      simp only [List.getElem_drop] at this
      rw [h] at this; cases this
    · omega
theorem segsH_more (rs : List Rc) : ∀ (f s : Nat), rs.length - s ≤ f → segsH f s rs = segsH (rs.length - s) s rs
  | 0, s, h => by rw [show rs.length - s = 0 by omega]
  | f + 1, s, h => by
    by_cases hs : s < rs.length
    · have hn := nxtS_lt hs
      obtain ⟨m, hm⟩ : ∃ m, rs.length - s = m + 1 := ⟨rs.length - s - 1, by omega⟩
      rw [hm]
      simp only [segsH, if_pos hs]
      rw [segsH_more rs f (nxtS rs s) (by omega), segsH_more rs m (nxtS rs s) (by omega)]
    · rw [show rs.length - s = 0 by omega]
      simp only [segsH, if_neg hs]
def leftS (rs : List Rc) (s : Nat) : List (Nat × Nat) := segsH (rs.length - s) s rs
theorem leftS_zero (rs : List Rc) : leftS rs 0 = segsS rs := rfl
theorem leftS_end (rs : List Rc) {s : Nat} (h : rs.length ≤ s) : leftS rs s = [] := by unfold leftS; rw [show rs.length - s = 0 by omega]; rfl
theorem leftS_step {rs : List Rc} {s : Nat} (hs : s < rs.length) : leftS rs s = (s, nxtS rs s) :: leftS rs (nxtS rs s) := by
  have hn := nxtS_lt hs
  obtain ⟨m, hm⟩ : ∃ m, rs.length - s = m + 1 := ⟨rs.length - s - 1, by omega⟩
  unfold leftS
  rw [hm]
  simp only [segsH, if_pos hs]
  rw [segsH_more rs m (nxtS rs s) (by omega)]
def setR (rs : List Rc) (x : Nat × Nat) : St := match rs.drop x.1 with
  | [] => ⟨[], 0, 0, []⟩
  | y :: r => stR y (r.take (x.2 - x.1 - 1))
theorem leftS_sets (rs : List Rc) : ∀ (n s : Nat), rs.length - s ≤ n → (leftS rs s).map (setR rs) = setsM (rs.drop s)
  | n, s, h => by
    by_cases hs : s < rs.length
    · have hn := nxtS_lt hs
      have e1 := nxtS_at hs
      obtain ⟨t1, t2⟩ := takeWhile_take (belR rs[s]) (rs.drop (s + 1))
      rw [leftS_step hs, List.map_cons, List.drop_eq_getElem_cons hs, setsM_cons]
      have ed : (rs.drop (s + 1)).dropWhile (belR rs[s]) = rs.drop (nxtS rs s) := by rw [← t2, List.drop_drop, e1]
      have er : setR rs (s, nxtS rs s) = stR rs[s] ((rs.drop (s + 1)).takeWhile (belR rs[s])) := by
        unfold setR
        simp only [List.drop_eq_getElem_cons hs]
        rw [← t1, show nxtS rs s - s - 1 = ((rs.drop (s + 1)).takeWhile (belR rs[s])).length by omega]
      rw [er, ed]
      cases n with
      | zero => omega
      | succ n => rw [leftS_sets rs n (nxtS rs s) (by omega)]
    · rw [leftS_end rs (by omega), List.drop_of_length_le (by omega)]
      rfl
theorem segs_sets (rs : List Rc) : (segsS rs).map (setR rs) = setsM rs := by rw [← leftS_zero, leftS_sets rs rs.length 0 (by omega)]; rfl
end Go.Proofs.YtckammgnmgkieaaGreat

/-
  Sets of a row in its own order: what SetsAll asks of them.
-/
namespace Go.Proofs.YtckammgnmgkieaaGreat
set_option maxRecDepth 20000
open Go.RowKit Go.Shelf
open Stb (COrd)
set_option linter.unusedVariables false

def keyR (a b : Rc) : Int := orI (compareN a.owner b.owner) (cmpI a.data.ty b.data.ty)
theorem cord_keyR : COrd keyR := cord_orI (cord_on cord_compareN Rc.owner) (cord_on (cord_on cord_cmpI Dat.ty) Rc.data)
theorem cmpI_zero {a b : Int} : cmpI a b = 0 ↔ a = b := by
  unfold cmpI
  constructor
  · intro h
    by_cases h1 : a < b
    · rw [if_pos h1] at h; cases h
    · rw [if_neg h1] at h
      by_cases h2 : b < a
      · simp [h2] at h
      · omega
  · rintro rfl; simp
theorem keyR_zero (a b : Rc) : keyR a b = 0 ↔ belR b a = true := by
  unfold keyR belR belM orI
  rw [Bool.and_eq_true, decide_eq_true_eq]
  by_cases h : compareN a.owner b.owner = 0
  · rw [if_pos h]
    exact ⟨fun h2 => ⟨cmpI_zero.1 h2, (compareN_zero _ _).1 h⟩, fun h2 => cmpI_zero.2 h2.1⟩
  · rw [if_neg h]
    exact ⟨fun h2 => absurd h2 h, fun h2 => absurd ((compareN_zero _ _).2 h2.2) h⟩
theorem keyR_of {a b : Rc} (h : compareR a b ≤ 0) : keyR a b ≤ 0 := by
  unfold compareR compareD orI at h
  unfold keyR orI
  by_cases h1 : compareN a.owner b.owner = 0
  · rw [if_pos h1] at h ⊢
    by_cases h2 : cmpI a.data.ty b.data.ty = 0
    · omega
    · rw [if_neg h2] at h; exact h
  · rw [if_neg h1] at h ⊢; exact h
theorem keyR_eq {a b : Rc} (h : compareR a b = 0) : keyR a b = 0 := by
  have h1 := keyR_of (a := a) (b := b) (by omega)
  have h2 := keyR_of (a := b) (b := a) (by have := cR_anti a b; omega)
  have h3 := cord_keyR.anti a b
  omega
theorem keyR_sym {a b : Rc} (h : keyR a b = 0) : keyR b a = 0 := by have := cord_keyR.anti a b; omega
theorem belM_eq {o : Nm} {t : Int} {a b : Rc} (h : keyR a b = 0) : belM o t a = belM o t b := by
  have h1 := (keyR_zero a b).1 h
  unfold belR belM at h1
  rw [Bool.and_eq_true, decide_eq_true_eq] at h1
  unfold belM
  rw [h1.1]
  congr 1
  have e := h1.2
  cases h2 : sameN b.owner o with
  | true => exact sameN_trans e h2
  | false =>
    cases h3 : sameN a.owner o with
    | false => rfl
    | true => rw [sameN_symm] at e; rw [sameN_trans e h3] at h2; cases h2
theorem filter_gt {p : Rc → Bool} {x : Rc} : ∀ (c : List Rc), (∀ y ∈ c, 0 < compareR y x) → insR (c.filter p) x = x :: c.filter p := fun c h => by
  cases e : c.filter p with
  | nil => rfl
  | cons z r =>
    have hz : z ∈ c := (List.mem_filter.1 (show z ∈ c.filter p by rw [e]; simp)).1
    have := h z hz
    rw [insR, if_neg (by omega), if_neg (by omega)]
theorem insR_filter {p : Rc → Bool} (hp : ∀ a b, compareR a b = 0 → p a = p b) (x : Rc) : ∀ (c : List Rc), StrictR c → (∀ y ∈ c, p ⟨y.owner, minT y.ttl x.ttl, y.data⟩ = p y) → (insR c x).filter p = if p x = true then insR (c.filter p) x else c.filter p
  | [], _, _ => by
    by_cases hx : p x = true
    · simp [insR, hx]
    · simp [insR, hx]
  | y :: r, hs, hm => by
    have hs2 : StrictR r := (List.pairwise_cons.1 hs).2
    have hy := (List.pairwise_cons.1 hs).1
    have ih := insR_filter hp x r hs2 (fun z hz => hm z (by simp [hz]))
    by_cases h1 : compareR y x < 0
    · rw [insR, if_pos h1, List.filter_cons, ih, List.filter_cons]
      by_cases hpy : p y = true
      · rw [if_pos hpy, if_pos hpy]
        by_cases hx : p x = true
        · rw [if_pos hx, if_pos hx, insR, if_pos h1]
        · rw [if_neg hx, if_neg hx]
      · rw [if_neg hpy, if_neg hpy]
    · by_cases h2 : compareR y x = 0
      · have e := hp y x h2
        have em := hm y (by simp)
        rw [insR, if_neg h1, if_pos h2, List.filter_cons, em, List.filter_cons]
        by_cases hpy : p y = true
        · rw [if_pos hpy, if_pos hpy, if_pos (by rw [← e]; exact hpy), insR, if_neg h1, if_pos h2]
        · rw [if_neg hpy, if_neg hpy, if_neg (by rw [← e]; exact hpy)]
      · rw [insR, if_neg h1, if_neg h2, List.filter_cons]
        by_cases hx : p x = true
        · rw [if_pos hx, if_pos hx]
          refine (filter_gt (y :: r) fun z hz => ?_).symm
          rcases List.mem_cons.1 hz with rfl | hz
          · have := compareR_range z x; omega
          · have h3 := hy z hz
            have h4 : compareR x y ≤ 0 := by have := cR_anti y x; omega
            have h5 := cR_le_lt h4 h3
            have := cR_anti x z
            omega
        · rw [if_neg hx, if_neg hx]
theorem canonM_filter (o : Nm) (t : Int) (l : List Rc) : canonM (l.filter (belM o t)) = (canonM l).filter (belM o t) :=
  list_snoc_ind (P := fun l => canonM (l.filter (belM o t)) = (canonM l).filter (belM o t)) rfl (fun l x ih => by
    rw [canonM_snoc, insR_filter (fun a b h => belM_eq (keyR_eq h)) x _ (canonM_can l).up (fun y _ => rfl), List.filter_append]
    by_cases hx : belM o t x = true
    · rw [if_pos hx, List.filter_cons, if_pos hx, List.filter_nil, canonM_snoc, ih]
    · rw [if_neg hx, List.filter_cons, if_neg hx, List.filter_nil, List.append_nil, ih]) l
theorem all_takeWhile {p : Rc → Bool} : ∀ (l : List Rc), (∀ z ∈ l, p z = true) → l.takeWhile p = l ∧ l.dropWhile p = [] := fun l h => by
  have := takeWhile_app (p := p) l [] h (fun z hz => by cases hz)
  simpa using this
theorem takeWhile_all {p : Rc → Bool} : ∀ (l : List Rc), ∀ z ∈ l.takeWhile p, p z = true
  | [], z, h => by cases h
  | x :: r, z, h => by
    by_cases hx : p x = true
    · rw [List.takeWhile_cons, if_pos hx] at h
      rcases List.mem_cons.1 h with rfl | h
      · exact hx
      · exact takeWhile_all r z h
    · rw [List.takeWhile_cons, if_neg hx] at h; cases h
theorem drop_other {y : Rc} {r : List Rc} (hs : StrictR (y :: r)) : ∀ z ∈ r.dropWhile (belR y), belR y z = false := by
  have hd := dropWhile_head (belR y) r
  have hsub : ∀ z ∈ r.dropWhile (belR y), z ∈ r := fun z hz => (List.dropWhile_sublist _).subset hz
  have hst : StrictR (r.dropWhile (belR y)) := List.Pairwise.sublist (List.dropWhile_sublist _) (List.pairwise_cons.1 hs).2
  cases e : r.dropWhile (belR y) with
  | nil => intro z hz; cases hz
  | cons d D =>
    rw [e] at hd hsub hst
    have h1 : belR y d = false := hd d (by simp)
    have h2 : compareR y d < 0 := (List.pairwise_cons.1 hs).1 d (hsub d (by simp))
    have k1 : keyR d y ≠ 0 := fun h => by rw [(keyR_zero d y).1 h] at h1; cases h1
    have k2 : keyR y d ≤ 0 := keyR_of (by omega)
    have k3 : keyR y d < 0 := by have := cord_keyR.anti y d; omega
    intro z hz
    rcases List.mem_cons.1 hz with rfl | hz
    · exact h1
    · have h3 : compareR d z < 0 := (List.pairwise_cons.1 hst).1 z hz
      have k4 : keyR d z ≤ 0 := keyR_of (by omega)
      cases hb : belR y z with
      | false => rfl
      | true =>
        have k5 : keyR z y = 0 := (keyR_zero z y).2 hb
        have k6 := cord_keyR.trans d z y k4 (by omega)
        have := cord_keyR.anti d y
        omega
theorem belR_trans {a b c : Rc} (h1 : belR a b = true) (h2 : belR a c = true) : belR b c = true := by
  have k1 := (keyR_zero b a).2 h1
  have k2 := (keyR_zero c a).2 h2
  have k3 := keyR_sym k1
  refine (keyR_zero c b).1 ?_
  have t1 := cord_keyR.trans c a b (by omega) (by omega)
  have t2 := cord_keyR.trans b a c (by omega) (by have := keyR_sym k2; omega)
  have := cord_keyR.anti c b
  omega
theorem sets_filter : ∀ (n : Nat) (c : List Rc), c.length ≤ n → StrictR c → ∀ s ∈ setsM c, ∃ y r, s = stR y r ∧ y ∈ c ∧ c.filter (belM s.owner s.ty) = y :: r
  | 0, c, hn, _, s, h => by
    obtain rfl : c = [] := List.eq_nil_of_length_eq_zero (by omega)
    cases h
  | n + 1, [], _, _, s, h => by cases h
  | n + 1, y :: r, hn, hs, s, h => by
    have hl : (r.dropWhile (belR y)).length ≤ r.length := (List.dropWhile_sublist _).length_le
    have hst : StrictR (r.dropWhile (belR y)) := List.Pairwise.sublist (List.dropWhile_sublist _) (List.pairwise_cons.1 hs).2
    have hr : r = r.takeWhile (belR y) ++ r.dropWhile (belR y) := (List.takeWhile_append_dropWhile).symm
    have hno := drop_other hs
    have hall := takeWhile_all (p := belR y) r
    rw [setsM_cons] at h
    rcases List.mem_cons.1 h with rfl | h
    · refine ⟨y, r.takeWhile (belR y), rfl, by simp, ?_⟩
      have e : (fun z => belM (stR y (r.takeWhile (belR y))).owner (stR y (r.takeWhile (belR y))).ty z) = belR y := rfl
      show (y :: r).filter (belR y) = _
      rw [List.filter_cons, if_pos (belR_refl y)]
      congr 1
      rw (occs := .pos [1]) [hr]
      rw [List.filter_append, List.filter_eq_self.2 hall, List.filter_eq_nil_iff.2 (fun z hz => by rw [hno z hz]; simp), List.append_nil]
    · simp only [List.length_cons] at hn
      obtain ⟨y', r', e1, e2, e3⟩ := sets_filter n _ (by omega) hst s h
      refine ⟨y', r', e1, List.mem_cons_of_mem _ ((List.dropWhile_sublist _).subset e2), ?_⟩
      have hb : ∀ z, belR y z = true → belM s.owner s.ty z = false := fun z hz => by
        cases hh : belM s.owner s.ty z with
        | false => rfl
        | true =>
          exfalso
          have h5 : belR y' z = true := by rw [e1] at hh; exact hh
          have h6 := hno y' e2
          have k1 := (keyR_zero z y').2 h5
          have k2 := (keyR_zero z y).2 hz
          have : belR z y' = true := (keyR_zero y' z).1 (keyR_sym k1)
          have h7 : belR z y = true := (keyR_zero y z).1 (keyR_sym k2)
          rw [belR_trans h7 this] at h6; cases h6
      rw [List.filter_cons, if_neg (by rw [hb y (belR_refl y)]; simp)]
      rw (occs := .pos [1]) [hr]
      rw [List.filter_append, List.filter_eq_nil_iff.2 (fun z hz => by rw [hb z (hall z hz)]; simp), List.nil_append, e3]
theorem setsM_all {y : Rc} {r : List Rc} (h : ∀ z ∈ r, belR y z = true) : setsM (y :: r) = [stR y r] := by
  rw [setsM_cons, (all_takeWhile r h).1, (all_takeWhile r h).2]; rfl
def ofM (l : List Rc) (o : Nm) (t : Int) : Option St := (setsM (canonM (l.filter (belM o t)))).head?
theorem sets_count : ∀ (n : Nat) (c : List Rc), c.length ≤ n → ((setsM c).map fun s => s.data.length).sum = c.length
  | 0, c, hn => by
    obtain rfl : c = [] := List.eq_nil_of_length_eq_zero (by omega)
    rfl
  | n + 1, [], _ => rfl
  | n + 1, y :: r, hn => by
    have hl : (r.dropWhile (belR y)).length ≤ r.length := (List.dropWhile_sublist _).length_le
    simp only [List.length_cons] at hn
    have hr : (r.takeWhile (belR y)).length + (r.dropWhile (belR y)).length = r.length := by
      rw [← List.length_append, List.takeWhile_append_dropWhile]
    rw [setsM_cons, List.map_cons, List.sum_cons, sets_count n _ (by omega)]
    simp only [stR, List.length_cons, List.length_map]
    omega
theorem sets_type {l : List Rc} {s : St} (h : s ∈ setsM (canonM l)) : ∃ a ∈ l, sameN a.owner s.owner = true ∧ a.data.ty = s.ty := by
  obtain ⟨y, r, e1, e2, _⟩ := sets_filter _ _ (Nat.le_refl _) (canonM_can l).up s h
  obtain ⟨a, ha, h1, _⟩ := (canonM_can l).of y e2
  have h2 := (keyR_zero a y).1 (keyR_eq h1)
  unfold belR belM at h2
  rw [Bool.and_eq_true, decide_eq_true_eq] at h2
  exact ⟨a, ha, by rw [e1]; exact h2.2, by rw [e1]; exact h2.1⟩
end Go.Proofs.YtckammgnmgkieaaGreat

/-
  rset.belongs.
-/
namespace Go.Proofs.YtckammgnmgkieaaGreat
set_option maxRecDepth 20000
open Go.RowKit Go.Shelf
set_option maxRecDepth 20000
set_option linter.unusedVariables false
set_option linter.unusedSimpArgs false

set_option maxRecDepth 100000 in
set_option maxHeartbeats 4000000 in
theorem rset_belongs (a0 : Option Addr) (n0 c0 : Nat) (a1 : Option Addr) (n1 c1 : Nat) (tt : Int) (o : Nm) (t : Int) (cs : List Value) (r : Rc) (w : World) (hO : NmAt w (.slice a0 n0 c0) o) (hko : NmOK o) (hA : RcAt w cs r) (hk : RcOK r) :
    Calls Tryz.prog 111 #[.agg #[.slice a0 n0 c0, .int .i64 t, .int .u32 tt, .slice a1 n1 c1], .agg cs.toArray] w fun e w' => e = .returned (.bool (belM o t r)) ∧ Below w.heap.size w w' := by
  have hsh := hA.shape
  obtain ⟨⟨p0, q0, k0⟩, ⟨p3, q3, k3⟩, ⟨p4, q4, k4⟩, ⟨p5, q5, k5⟩, ⟨p6, q6, k6⟩, e0⟩ := hsh
  simp only at e0
  subst e0
  have hA1 : NmAt w (.slice p0 q0 k0) r.owner := by
    obtain ⟨_, _, _, _, _, e5, g1, _⟩ := hA
    simp only [List.cons.injEq, and_true] at e5
    rw [e5.1]; exact g1
  have HN := Lib.hid (fun W (hb : Below w.heap.size w W) => kn_NSame (.slice p0 q0 k0) (.slice a0 n0 c0) r.owner o _ rfl W (hA1.below hb) (hO.below hb) hk.1 hko)
  have hR := Lib.hid (show belM o t r = (decide (r.data.ty = t) && sameN r.owner o) from rfl)
  generalize belM o t r = res at *
  generalize sameN r.owner o = q at *
  generalize r.data.ty = x at *
  generalize (r.ttl : Int) = tr at *
  have hb0 := fun o o' => ((Below.refl w.heap.size w).alloc (Nat.le_refl _) o).alloc (o := o') (by simp)
  have hbb := hb0 (Obj.cells #[.slice a0 n0 c0, .int .i64 t, .int .u32 tt, .slice a1 n1 c1] 38) (Obj.cells #[.slice p0 q0 k0, .int .u32 tr, .int .i64 x, .slice p3 q3 k3, .slice p4 q4 k4, .slice p5 q5 k5, .slice p6 q6 k6] 103)
  have hn := HN.out _ hbb
  have HBB := Lib.hid hbb
  clear hbb hb0 HN hA hA1 hO hko hk
  by_cases hx : x = t
  · subst hx
    have HR : Hid (res = q) := Lib.hid (by rw [hR.out]; simp)
    clear hR
    go_enter Tryz.func111, Tryz.ntmps111
    go_wp2_with fail
    refine hn.mono ?_
    rintro e w1 ⟨rfl, hb1⟩
    have HB1 := Lib.hid (HBB.out.trans (hb1.mono HBB.out.size))
    clear hb1 hn
    go_wp2
    go_ret
    exact ⟨by rw [HR.out]; rfl, HB1.out⟩
  · have HR : Hid (res = false) := Lib.hid (by rw [hR.out]; simp [hx])
    have hxb : (x == t) = false := by simpa using hx
    clear hR hn
    go_enter Tryz.func111, Tryz.ntmps111
    go_wp2
    go_ret
    exact ⟨by rw [HR.out]; rfl, HBB.out⟩
end Go.Proofs.YtckammgnmgkieaaGreat

