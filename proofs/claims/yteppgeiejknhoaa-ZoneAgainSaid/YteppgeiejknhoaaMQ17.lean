/-
  A row cut into runs of records that are the same: plain facts.
-/
import Derived.Test.YteppgeiejknhoaaMQ10
import Derived.Test.YteppgeiejknhoaaMQ32
import Derived.Test.YteppgeiejknhoaaMQ43
import Derived.Maps.AppendAt
import Derived.Maps.OwnIn
import Derived.StillTail
import Derived.StillTailTactics
import Derived.Deep.RegionHeld3
import Derived.Deep.RegionHeldLaw
import Derived.Deep.AppendLies
import Derived.Deep.DrawnRows
import Derived.Deep.QuietTactic
import Derived.BigQuiet
import Derived.Test.YteppgeiejknhoaaMQ27
import Derived.Test.YteppgeiejknhoaaMQ26
import Derived.Laws.AppendOwnNone
import Derived.Lib.Walk
import Derived.Lib.SliceRun
import Derived.Sort.QuietTacIn
import Derived.Sort.BigQuietIn
namespace Go.Proofs.Yteppgeiejknhoaa
set_option maxRecDepth 20000
open Go.RowKit Go.Shelf
set_option linter.unusedVariables false

/-- Where the run that begins at s ends. -/
def nxtM (rs : List Rc) (s : Nat) : Nat := match rs.drop s with
  | [] => s + 1
  | y :: r => s + 1 + (r.takeWhile (sameR y)).length
def segsF : Nat → Nat → List Rc → List (Nat × Nat)
  | 0, _, _ => []
  | f + 1, s, rs => if s < rs.length then (s, nxtM rs s) :: segsF f (nxtM rs s) rs else []
def segs (rs : List Rc) : List (Nat × Nat) := segsF rs.length 0 rs
theorem takeWhile_len {p : Rc → Bool} : ∀ (l : List Rc), (l.takeWhile p).length ≤ l.length ∧ (∀ j (hj : j < (l.takeWhile p).length) (h : j < l.length), p l[j] = true) ∧ (∀ h : (l.takeWhile p).length < l.length, p l[(l.takeWhile p).length] = false)
  | [] => ⟨Nat.le_refl _, fun j hj => by simp at hj, fun h => by simp at h⟩
  | x :: r => by
    obtain ⟨h1, h2, h3⟩ := takeWhile_len (p := p) r
    by_cases hx : p x = true
    · have e : (x :: r).takeWhile p = x :: r.takeWhile p := by rw [List.takeWhile_cons, if_pos hx]
      simp only [e, List.length_cons]
      refine ⟨by omega, fun j hj h => ?_, fun h => ?_⟩
      · cases j with
        | zero => exact hx
        | succ j => exact h2 j (by omega) (by omega)
      · exact h3 (by omega)
    · have hx' : p x = false := by simpa using hx
      have e : (x :: r).takeWhile p = [] := by rw [List.takeWhile_cons, if_neg hx]
      simp only [e, List.length_nil, List.length_cons]
      exact ⟨by omega, fun j hj => by omega, fun h => hx'⟩
theorem nxtM_at {rs : List Rc} {s : Nat} (hs : s < rs.length) : nxtM rs s = s + 1 + ((rs.drop (s + 1)).takeWhile (sameR rs[s])).length := by
  unfold nxtM
  rw [List.drop_eq_getElem_cons hs]
theorem nxtM_lt {rs : List Rc} {s : Nat} (hs : s < rs.length) : s < nxtM rs s ∧ nxtM rs s ≤ rs.length := by
  rw [nxtM_at hs]
  have := (takeWhile_len (p := sameR rs[s]) (rs.drop (s + 1))).1
  rw [List.length_drop] at this
  omega
/-- One more that is the same. -/
theorem nxtM_more {rs : List Rc} {s e : Nat} (hs : s < rs.length) (h1 : s + 1 ≤ e) (h2 : e ≤ nxtM rs s) (he : e < rs.length) (hsame : sameR rs[s] rs[e] = true) : e + 1 ≤ nxtM rs s := by
  rw [nxtM_at hs] at h2 ⊢
  obtain ⟨t1, t2, t3⟩ := takeWhile_len (p := sameR rs[s]) (rs.drop (s + 1))
  rcases Nat.lt_or_ge e (s + 1 + ((rs.drop (s + 1)).takeWhile (sameR rs[s])).length) with h | h
  · omega
  · exfalso
    obtain ⟨j, rfl⟩ : ∃ j, e = s + 1 + j := ⟨e - (s + 1), by omega⟩
    have e1 : ((rs.drop (s + 1)).takeWhile (sameR rs[s])).length = j := by omega
    have := t3 (by rw [List.length_drop]; omega)
    simp only [e1, List.getElem_drop] at this
    rw [hsame] at this; cases this
/-- .. and no more. -/
theorem nxtM_stop {rs : List Rc} {s e : Nat} (hs : s < rs.length) (h1 : s + 1 ≤ e) (h2 : e ≤ nxtM rs s) (h : e = rs.length ∨ ∃ he : e < rs.length, sameR rs[s] rs[e] = false) : e = nxtM rs s := by
  have hn := nxtM_lt hs
  rcases h with h | ⟨he, h⟩
  · omega
  · rcases Nat.lt_or_ge e (nxtM rs s) with h3 | h3
    · exfalso
      rw [nxtM_at hs] at h3
      obtain ⟨t1, t2, t3⟩ := takeWhile_len (p := sameR rs[s]) (rs.drop (s + 1))
      obtain ⟨j, rfl⟩ : ∃ j, e = s + 1 + j := ⟨e - (s + 1), by omega⟩
      have := t2 j (by omega) (by rw [List.length_drop]; omega)
      simp only [List.getElem_drop] at this
      rw [h] at this; cases this
    · omega
theorem segsF_more (rs : List Rc) : ∀ (f s : Nat), rs.length - s ≤ f → segsF f s rs = segsF (rs.length - s) s rs
  | 0, s, h => by rw [show rs.length - s = 0 by omega]
  | f + 1, s, h => by
    by_cases hs : s < rs.length
    · have hn := nxtM_lt hs
      obtain ⟨m, hm⟩ : ∃ m, rs.length - s = m + 1 := ⟨rs.length - s - 1, by omega⟩
      rw [hm]
      simp only [segsF, if_pos hs]
      rw [segsF_more rs f (nxtM rs s) (by omega), segsF_more rs m (nxtM rs s) (by omega)]
    · rw [show rs.length - s = 0 by omega]
      simp only [segsF, if_neg hs]
/-- What is left to come from s on. -/
def leftM (rs : List Rc) (s : Nat) : List (Nat × Nat) := segsF (rs.length - s) s rs
theorem leftM_zero (rs : List Rc) : leftM rs 0 = segs rs := rfl
theorem leftM_end (rs : List Rc) {s : Nat} (h : rs.length ≤ s) : leftM rs s = [] := by unfold leftM; rw [show rs.length - s = 0 by omega]; rfl
theorem leftM_step {rs : List Rc} {s : Nat} (hs : s < rs.length) : leftM rs s = (s, nxtM rs s) :: leftM rs (nxtM rs s) := by
  have hn := nxtM_lt hs
  obtain ⟨m, hm⟩ : ∃ m, rs.length - s = m + 1 := ⟨rs.length - s - 1, by omega⟩
  unfold leftM
  rw [hm]
  simp only [segsF, if_pos hs]
  rw [segsF_more rs m (nxtM rs s) (by omega)]
/-- A run's record. -/
def runR (rs : List Rc) (x : Nat × Nat) : Rc := match rs.drop x.1 with
  | [] => Rc.mk [] 0 ⟨0, [], [], [], []⟩
  | y :: r => ⟨y.owner, leastM y.ttl (r.take (x.2 - x.1 - 1)), y.data⟩
theorem takeWhile_take (p : Rc → Bool) : ∀ l : List Rc, l.take (l.takeWhile p).length = l.takeWhile p ∧ l.drop (l.takeWhile p).length = l.dropWhile p
  | [] => ⟨rfl, rfl⟩
  | x :: r => by
    have ih := takeWhile_take p r
    by_cases hx : p x = true
    · simp only [List.takeWhile_cons, List.dropWhile_cons, hx, if_true, List.length_cons, List.take_succ_cons, List.drop_succ_cons, ih.1, ih.2]
      exact ⟨trivial, trivial⟩
    · simp only [List.takeWhile_cons, List.dropWhile_cons, hx, Bool.false_eq_true, if_false, List.length_nil, List.take_zero, List.drop_zero]
      exact ⟨trivial, trivial⟩
theorem leftM_grp (rs : List Rc) : ∀ (n s : Nat), rs.length - s ≤ n → (leftM rs s).map (runR rs) = grp (rs.drop s)
  | n, s, h => by
    by_cases hs : s < rs.length
    · have hn := nxtM_lt hs
      have e1 := nxtM_at hs
      obtain ⟨t1, t2⟩ := takeWhile_take (sameR rs[s]) (rs.drop (s + 1))
      rw [leftM_step hs, List.map_cons, List.drop_eq_getElem_cons hs, grp_cons]
      have ed : (rs.drop (s + 1)).dropWhile (sameR rs[s]) = rs.drop (nxtM rs s) := by rw [← t2, List.drop_drop, e1]
      have er : runR rs (s, nxtM rs s) = ⟨rs[s].owner, leastM rs[s].ttl ((rs.drop (s + 1)).takeWhile (sameR rs[s])), rs[s].data⟩ := by
        unfold runR
        simp only [List.drop_eq_getElem_cons hs]
        rw [← t1, show nxtM rs s - s - 1 = ((rs.drop (s + 1)).takeWhile (sameR rs[s])).length by omega]
      rw [er, ed]
      cases n with
      | zero => omega
      | succ n => rw [leftM_grp rs n (nxtM rs s) (by omega)]
    · rw [leftM_end rs (by omega), List.drop_of_length_le (by omega)]
      rfl
theorem segs_grp (rs : List Rc) : (segs rs).map (runR rs) = grp rs := by rw [← leftM_zero, leftM_grp rs rs.length 0 (by omega)]; rfl
end Go.Proofs.Yteppgeiejknhoaa

/-
  A row of records cut into sets: plain facts. (The runs' facts are XRunP's, with another word for 'alike'.)
-/
namespace Go.Proofs.Yteppgeiejknhoaa
set_option maxRecDepth 20000
open Go.RowKit Go.Shelf
set_option linter.unusedVariables false

structure St where
  owner : Nm
  ty : Int
  ttl : Nat
  data : List Dat
/-- Does r belong to the set that begins with y? -/
def belM (o : Nm) (t : Int) (r : Rc) : Bool := decide (r.data.ty = t) && sameN r.owner o
def belR (y r : Rc) : Bool := belM y.owner y.data.ty r
theorem belR_refl (y : Rc) : belR y y = true := by simp [belR, belM, sameN_refl]
/-- A run's set. -/
def stR (y : Rc) (r : List Rc) : St := ⟨y.owner, y.data.ty, leastM y.ttl r, y.data :: r.map Rc.data⟩
def setsF : Nat → List Rc → List St
  | 0, _ => []
  | _, [] => []
  | n + 1, y :: r => stR y (r.takeWhile (belR y)) :: setsF n (r.dropWhile (belR y))
theorem setsF_more : ∀ (n m : Nat) (l : List Rc), l.length ≤ n → l.length ≤ m → setsF n l = setsF m l
  | 0, 0, l, _, _ => rfl
  | 0, m + 1, l, h, _ => by
    have : l = [] := List.eq_nil_of_length_eq_zero (by omega)
    subst this; rfl
  | n + 1, 0, l, _, h => by
    have : l = [] := List.eq_nil_of_length_eq_zero (by omega)
    subst this; rfl
  | n + 1, m + 1, [], _, _ => rfl
  | n + 1, m + 1, y :: r, h1, h2 => by
    have hl : (r.dropWhile (belR y)).length ≤ r.length := (List.dropWhile_sublist _).length_le
    simp only [List.length_cons] at h1 h2
    simp only [setsF]
    rw [setsF_more n m _ (by omega) (by omega)]
/-- The sets of a row in order. -/
def setsM (l : List Rc) : List St := setsF l.length l
theorem setsM_cons (y : Rc) (r : List Rc) : setsM (y :: r) = stR y (r.takeWhile (belR y)) :: setsM (r.dropWhile (belR y)) := by
  have hl : (r.dropWhile (belR y)).length ≤ r.length := (List.dropWhile_sublist _).length_le
  unfold setsM
  simp only [List.length_cons, setsF]
  rw [setsF_more r.length _ _ hl (Nat.le_refl _)]
theorem setsM_nil : setsM [] = [] := rfl

/-- Where the run that begins at s ends. -/
def nxtS (rs : List Rc) (s : Nat) : Nat := match rs.drop s with
  | [] => s + 1
  | y :: r => s + 1 + (r.takeWhile (belR y)).length
def segsH : Nat → Nat → List Rc → List (Nat × Nat)
  | 0, _, _ => []
  | f + 1, s, rs => if s < rs.length then (s, nxtS rs s) :: segsH f (nxtS rs s) rs else []
def segsS (rs : List Rc) : List (Nat × Nat) := segsH rs.length 0 rs
theorem nxtS_at {rs : List Rc} {s : Nat} (hs : s < rs.length) : nxtS rs s = s + 1 + ((rs.drop (s + 1)).takeWhile (belR rs[s])).length := by
  unfold nxtS
  rw [List.drop_eq_getElem_cons hs]
theorem nxtS_lt {rs : List Rc} {s : Nat} (hs : s < rs.length) : s < nxtS rs s ∧ nxtS rs s ≤ rs.length := by
  rw [nxtS_at hs]
  have := (takeWhile_len (p := belR rs[s]) (rs.drop (s + 1))).1
  rw [List.length_drop] at this
  omega
/-- One more that is the same. -/
theorem nxtS_more {rs : List Rc} {s e : Nat} (hs : s < rs.length) (h1 : s + 1 ≤ e) (h2 : e ≤ nxtS rs s) (he : e < rs.length) (hsame : belR rs[s] rs[e] = true) : e + 1 ≤ nxtS rs s := by
  rw [nxtS_at hs] at h2 ⊢
  obtain ⟨t1, t2, t3⟩ := takeWhile_len (p := belR rs[s]) (rs.drop (s + 1))
  rcases Nat.lt_or_ge e (s + 1 + ((rs.drop (s + 1)).takeWhile (belR rs[s])).length) with h | h
  · omega
  · exfalso
    obtain ⟨j, rfl⟩ : ∃ j, e = s + 1 + j := ⟨e - (s + 1), by omega⟩
    have e1 : ((rs.drop (s + 1)).takeWhile (belR rs[s])).length = j := by omega
    have := t3 (by rw [List.length_drop]; omega)
    simp only [e1, List.getElem_drop] at this
    rw [hsame] at this; cases this
/-- .. and no more. -/
theorem nxtS_stop {rs : List Rc} {s e : Nat} (hs : s < rs.length) (h1 : s + 1 ≤ e) (h2 : e ≤ nxtS rs s) (h : e = rs.length ∨ ∃ he : e < rs.length, belR rs[s] rs[e] = false) : e = nxtS rs s := by
  have hn := nxtS_lt hs
  rcases h with h | ⟨he, h⟩
  · omega
  · rcases Nat.lt_or_ge e (nxtS rs s) with h3 | h3
    · exfalso
      rw [nxtS_at hs] at h3
      obtain ⟨t1, t2, t3⟩ := takeWhile_len (p := belR rs[s]) (rs.drop (s + 1))
      obtain ⟨j, rfl⟩ : ∃ j, e = s + 1 + j := ⟨e - (s + 1), by omega⟩
      have := t2 j (by omega) (by rw [List.length_drop]; omega)
      simp only [List.getElem_drop] at this
      rw [h] at this; cases this
    · omega
theorem segsH_more (rs : List Rc) : ∀ (f s : Nat), rs.length - s ≤ f → segsH f s rs = segsH (rs.length - s) s rs
  | 0, s, h => by rw [show rs.length - s = 0 by omega]
  | f + 1, s, h => by
    by_cases hs : s < rs.length
    · have hn := nxtS_lt hs
      obtain ⟨m, hm⟩ : ∃ m, rs.length - s = m + 1 := ⟨rs.length - s - 1, by omega⟩
      rw [hm]
      simp only [segsH, if_pos hs]
      rw [segsH_more rs f (nxtS rs s) (by omega), segsH_more rs m (nxtS rs s) (by omega)]
    · rw [show rs.length - s = 0 by omega]
      simp only [segsH, if_neg hs]
/-- What is left to come from s on. -/
def leftS (rs : List Rc) (s : Nat) : List (Nat × Nat) := segsH (rs.length - s) s rs
theorem leftS_zero (rs : List Rc) : leftS rs 0 = segsS rs := rfl
theorem leftS_end (rs : List Rc) {s : Nat} (h : rs.length ≤ s) : leftS rs s = [] := by unfold leftS; rw [show rs.length - s = 0 by omega]; rfl
theorem leftS_step {rs : List Rc} {s : Nat} (hs : s < rs.length) : leftS rs s = (s, nxtS rs s) :: leftS rs (nxtS rs s) := by
  have hn := nxtS_lt hs
  obtain ⟨m, hm⟩ : ∃ m, rs.length - s = m + 1 := ⟨rs.length - s - 1, by omega⟩
  unfold leftS
  rw [hm]
  simp only [segsH, if_pos hs]
  rw [segsH_more rs m (nxtS rs s) (by omega)]
/-- A piece's set. -/
def setR (rs : List Rc) (x : Nat × Nat) : St := match rs.drop x.1 with
  | [] => ⟨[], 0, 0, []⟩
  | y :: r => stR y (r.take (x.2 - x.1 - 1))
theorem leftS_sets (rs : List Rc) : ∀ (n s : Nat), rs.length - s ≤ n → (leftS rs s).map (setR rs) = setsM (rs.drop s)
  | n, s, h => by
    by_cases hs : s < rs.length
    · have hn := nxtS_lt hs
      have e1 := nxtS_at hs
      obtain ⟨t1, t2⟩ := takeWhile_take (belR rs[s]) (rs.drop (s + 1))
      rw [leftS_step hs, List.map_cons, List.drop_eq_getElem_cons hs, setsM_cons]
      have ed : (rs.drop (s + 1)).dropWhile (belR rs[s]) = rs.drop (nxtS rs s) := by rw [← t2, List.drop_drop, e1]
      have er : setR rs (s, nxtS rs s) = stR rs[s] ((rs.drop (s + 1)).takeWhile (belR rs[s])) := by
        unfold setR
        simp only [List.drop_eq_getElem_cons hs]
        rw [← t1, show nxtS rs s - s - 1 = ((rs.drop (s + 1)).takeWhile (belR rs[s])).length by omega]
      rw [er, ed]
      cases n with
      | zero => omega
      | succ n => rw [leftS_sets rs n (nxtS rs s) (by omega)]
    · rw [leftS_end rs (by omega), List.drop_of_length_le (by omega)]
      rfl
theorem segs_sets (rs : List Rc) : (segsS rs).map (setR rs) = setsM rs := by rw [← leftS_zero, leftS_sets rs rs.length 0 (by omega)]; rfl
end Go.Proofs.Yteppgeiejknhoaa

/-
  Sets of a row in its own order: what SetsAll asks of them.
-/
namespace Go.Proofs.Yteppgeiejknhoaa
set_option maxRecDepth 20000
open Go.RowKit Go.Shelf
open Stb (COrd)
set_option linter.unusedVariables false

/-- How two records stand by their owners and types alone. -/
def keyR (a b : Rc) : Int := orI (compareN a.owner b.owner) (cmpI a.data.ty b.data.ty)
theorem cord_keyR : COrd keyR := cord_orI (cord_on cord_compareN Rc.owner) (cord_on (cord_on cord_cmpI Dat.ty) Rc.data)
theorem cmpI_zero {a b : Int} : cmpI a b = 0 ↔ a = b := by
  unfold cmpI
  constructor
  · intro h
    by_cases h1 : a < b
    · rw [if_pos h1] at h; cases h
    · rw [if_neg h1] at h
      by_cases h2 : b < a
      · simp [h2] at h
      · omega
  · rintro rfl; simp
theorem keyR_zero (a b : Rc) : keyR a b = 0 ↔ belR b a = true := by
  unfold keyR belR belM orI
  rw [Bool.and_eq_true, decide_eq_true_eq]
  by_cases h : compareN a.owner b.owner = 0
  · rw [if_pos h]
    exact ⟨fun h2 => ⟨cmpI_zero.1 h2, (compareN_zero _ _).1 h⟩, fun h2 => cmpI_zero.2 h2.1⟩
  · rw [if_neg h]
    exact ⟨fun h2 => absurd h2 h, fun h2 => absurd ((compareN_zero _ _).2 h2.2) h⟩
theorem keyR_of {a b : Rc} (h : compareR a b ≤ 0) : keyR a b ≤ 0 := by
  unfold compareR compareD orI at h
  unfold keyR orI
  by_cases h1 : compareN a.owner b.owner = 0
  · rw [if_pos h1] at h ⊢
    by_cases h2 : cmpI a.data.ty b.data.ty = 0
    · omega
    · rw [if_neg h2] at h; exact h
  · rw [if_neg h1] at h ⊢; exact h
theorem keyR_eq {a b : Rc} (h : compareR a b = 0) : keyR a b = 0 := by
  have h1 := keyR_of (a := a) (b := b) (by omega)
  have h2 := keyR_of (a := b) (b := a) (by have := cR_anti a b; omega)
  have h3 := cord_keyR.anti a b
  omega
theorem keyR_sym {a b : Rc} (h : keyR a b = 0) : keyR b a = 0 := by have := cord_keyR.anti a b; omega
theorem belM_eq {o : Nm} {t : Int} {a b : Rc} (h : keyR a b = 0) : belM o t a = belM o t b := by
  have h1 := (keyR_zero a b).1 h
  unfold belR belM at h1
  rw [Bool.and_eq_true, decide_eq_true_eq] at h1
  unfold belM
  rw [h1.1]
  congr 1
  have e := h1.2
  cases h2 : sameN b.owner o with
  | true => exact sameN_trans e h2
  | false =>
    cases h3 : sameN a.owner o with
    | false => rfl
    | true => rw [sameN_symm] at e; rw [sameN_trans e h3] at h2; cases h2
theorem filter_gt {p : Rc → Bool} {x : Rc} : ∀ (c : List Rc), (∀ y ∈ c, 0 < compareR y x) → insR (c.filter p) x = x :: c.filter p := fun c h => by
  cases e : c.filter p with
  | nil => rfl
  | cons z r =>
    have hz : z ∈ c := (List.mem_filter.1 (show z ∈ c.filter p by rw [e]; simp)).1
    have := h z hz
    rw [insR, if_neg (by omega), if_neg (by omega)]
theorem insR_filter {p : Rc → Bool} (hp : ∀ a b, compareR a b = 0 → p a = p b) (x : Rc) : ∀ (c : List Rc), StrictR c → (∀ y ∈ c, p ⟨y.owner, minT y.ttl x.ttl, y.data⟩ = p y) → (insR c x).filter p = if p x = true then insR (c.filter p) x else c.filter p
  | [], _, _ => by
    by_cases hx : p x = true
    · simp [insR, hx]
    · simp [insR, hx]
  | y :: r, hs, hm => by
    have hs2 : StrictR r := (List.pairwise_cons.1 hs).2
    have hy := (List.pairwise_cons.1 hs).1
    have ih := insR_filter hp x r hs2 (fun z hz => hm z (by simp [hz]))
    by_cases h1 : compareR y x < 0
    · rw [insR, if_pos h1, List.filter_cons, ih, List.filter_cons]
      by_cases hpy : p y = true
      · rw [if_pos hpy, if_pos hpy]
        by_cases hx : p x = true
        · rw [if_pos hx, if_pos hx, insR, if_pos h1]
        · rw [if_neg hx, if_neg hx]
      · rw [if_neg hpy, if_neg hpy]
    · by_cases h2 : compareR y x = 0
      · have e := hp y x h2
        have em := hm y (by simp)
        rw [insR, if_neg h1, if_pos h2, List.filter_cons, em, List.filter_cons]
        by_cases hpy : p y = true
        · rw [if_pos hpy, if_pos hpy, if_pos (by rw [← e]; exact hpy), insR, if_neg h1, if_pos h2]
        · rw [if_neg hpy, if_neg hpy, if_neg (by rw [← e]; exact hpy)]
      · rw [insR, if_neg h1, if_neg h2, List.filter_cons]
        by_cases hx : p x = true
        · rw [if_pos hx, if_pos hx]
          refine (filter_gt (y :: r) fun z hz => ?_).symm
          rcases List.mem_cons.1 hz with rfl | hz
          · have := compareR_range z x; omega
          · have h3 := hy z hz
            have h4 : compareR x y ≤ 0 := by have := cR_anti y x; omega
            have h5 := cR_le_lt h4 h3
            have := cR_anti x z
            omega
        · rw [if_neg hx, if_neg hx]
theorem canonM_filter (o : Nm) (t : Int) (l : List Rc) : canonM (l.filter (belM o t)) = (canonM l).filter (belM o t) :=
  list_snoc_ind (P := fun l => canonM (l.filter (belM o t)) = (canonM l).filter (belM o t)) rfl (fun l x ih => by
    rw [canonM_snoc, insR_filter (fun a b h => belM_eq (keyR_eq h)) x _ (canonM_can l).up (fun y _ => rfl), List.filter_append]
    by_cases hx : belM o t x = true
    · rw [if_pos hx, List.filter_cons, if_pos hx, List.filter_nil, canonM_snoc, ih]
    · rw [if_neg hx, List.filter_cons, if_neg hx, List.filter_nil, List.append_nil, ih]) l
theorem all_takeWhile {p : Rc → Bool} : ∀ (l : List Rc), (∀ z ∈ l, p z = true) → l.takeWhile p = l ∧ l.dropWhile p = [] := fun l h => by
  have := takeWhile_app (p := p) l [] h (fun z hz => by cases hz)
  simpa using this
theorem takeWhile_all {p : Rc → Bool} : ∀ (l : List Rc), ∀ z ∈ l.takeWhile p, p z = true
  | [], z, h => by cases h
  | x :: r, z, h => by
    by_cases hx : p x = true
    · rw [List.takeWhile_cons, if_pos hx] at h
      rcases List.mem_cons.1 h with rfl | h
      · exact hx
      · exact takeWhile_all r z h
    · rw [List.takeWhile_cons, if_neg hx] at h; cases h
/-- What is behind a run is of another set. -/
theorem drop_other {y : Rc} {r : List Rc} (hs : StrictR (y :: r)) : ∀ z ∈ r.dropWhile (belR y), belR y z = false := by
  have hd := dropWhile_head (belR y) r
  have hsub : ∀ z ∈ r.dropWhile (belR y), z ∈ r := fun z hz => (List.dropWhile_sublist _).subset hz
  have hst : StrictR (r.dropWhile (belR y)) := List.Pairwise.sublist (List.dropWhile_sublist _) (List.pairwise_cons.1 hs).2
  cases e : r.dropWhile (belR y) with
  | nil => intro z hz; cases hz
  | cons d D =>
    rw [e] at hd hsub hst
    have h1 : belR y d = false := hd d (by simp)
    have h2 : compareR y d < 0 := (List.pairwise_cons.1 hs).1 d (hsub d (by simp))
    have k1 : keyR d y ≠ 0 := fun h => by rw [(keyR_zero d y).1 h] at h1; cases h1
    have k2 : keyR y d ≤ 0 := keyR_of (by omega)
    have k3 : keyR y d < 0 := by have := cord_keyR.anti y d; omega
    intro z hz
    rcases List.mem_cons.1 hz with rfl | hz
    · exact h1
    · have h3 : compareR d z < 0 := (List.pairwise_cons.1 hst).1 z hz
      have k4 : keyR d z ≤ 0 := keyR_of (by omega)
      cases hb : belR y z with
      | false => rfl
      | true =>
        have k5 : keyR z y = 0 := (keyR_zero z y).2 hb
        have k6 := cord_keyR.trans d z y k4 (by omega)
        have := cord_keyR.anti d y
        omega
theorem belR_trans {a b c : Rc} (h1 : belR a b = true) (h2 : belR a c = true) : belR b c = true := by
  have k1 := (keyR_zero b a).2 h1
  have k2 := (keyR_zero c a).2 h2
  have k3 := keyR_sym k1
  refine (keyR_zero c b).1 ?_
  have t1 := cord_keyR.trans c a b (by omega) (by omega)
  have t2 := cord_keyR.trans b a c (by omega) (by have := keyR_sym k2; omega)
  have := cord_keyR.anti c b
  omega
/-- Each set is all that its owner and type have. -/
theorem sets_filter : ∀ (n : Nat) (c : List Rc), c.length ≤ n → StrictR c → ∀ s ∈ setsM c, ∃ y r, s = stR y r ∧ y ∈ c ∧ c.filter (belM s.owner s.ty) = y :: r
  | 0, c, hn, _, s, h => by
    obtain rfl : c = [] := List.eq_nil_of_length_eq_zero (by omega)
    cases h
  | n + 1, [], _, _, s, h => by cases h
  | n + 1, y :: r, hn, hs, s, h => by
    have hl : (r.dropWhile (belR y)).length ≤ r.length := (List.dropWhile_sublist _).length_le
    have hst : StrictR (r.dropWhile (belR y)) := List.Pairwise.sublist (List.dropWhile_sublist _) (List.pairwise_cons.1 hs).2
    have hr : r = r.takeWhile (belR y) ++ r.dropWhile (belR y) := (List.takeWhile_append_dropWhile).symm
    have hno := drop_other hs
    have hall := takeWhile_all (p := belR y) r
    rw [setsM_cons] at h
    rcases List.mem_cons.1 h with rfl | h
    · refine ⟨y, r.takeWhile (belR y), rfl, by simp, ?_⟩
      have e : (fun z => belM (stR y (r.takeWhile (belR y))).owner (stR y (r.takeWhile (belR y))).ty z) = belR y := rfl
      show (y :: r).filter (belR y) = _
      rw [List.filter_cons, if_pos (belR_refl y)]
      congr 1
      rw (occs := .pos [1]) [hr]
      rw [List.filter_append, List.filter_eq_self.2 hall, List.filter_eq_nil_iff.2 (fun z hz => by rw [hno z hz]; simp), List.append_nil]
    · simp only [List.length_cons] at hn
      obtain ⟨y', r', e1, e2, e3⟩ := sets_filter n _ (by omega) hst s h
      refine ⟨y', r', e1, List.mem_cons_of_mem _ ((List.dropWhile_sublist _).subset e2), ?_⟩
      have hb : ∀ z, belR y z = true → belM s.owner s.ty z = false := fun z hz => by
        cases hh : belM s.owner s.ty z with
        | false => rfl
        | true =>
          exfalso
          have h5 : belR y' z = true := by rw [e1] at hh; exact hh
          have h6 := hno y' e2
          have k1 := (keyR_zero z y').2 h5
          have k2 := (keyR_zero z y).2 hz
          have : belR z y' = true := (keyR_zero y' z).1 (keyR_sym k1)
          have h7 : belR z y = true := (keyR_zero y z).1 (keyR_sym k2)
          rw [belR_trans h7 this] at h6; cases h6
      rw [List.filter_cons, if_neg (by rw [hb y (belR_refl y)]; simp)]
      rw (occs := .pos [1]) [hr]
      rw [List.filter_append, List.filter_eq_nil_iff.2 (fun z hz => by rw [hb z (hall z hz)]; simp), List.nil_append, e3]
theorem setsM_all {y : Rc} {r : List Rc} (h : ∀ z ∈ r, belR y z = true) : setsM (y :: r) = [stR y r] := by
  rw [setsM_cons, (all_takeWhile r h).1, (all_takeWhile r h).2]; rfl
/-- One set of a row: the first of those that are of the owner and the type. -/
def ofM (l : List Rc) (o : Nm) (t : Int) : Option St := (setsM (canonM (l.filter (belM o t)))).head?
theorem ofM_sets {l : List Rc} {s : St} (h : s ∈ setsM (canonM l)) : ofM l s.owner s.ty = some s := by
  obtain ⟨y, r, e1, _, e3⟩ := sets_filter _ _ (Nat.le_refl _) (canonM_can l).up s h
  unfold ofM
  rw [canonM_filter, e3, setsM_all (fun z hz => ?_), ← e1]; rfl
  have hz2 : z ∈ (canonM l).filter (belM s.owner s.ty) := by rw [e3]; simp [hz]
  have := (List.mem_filter.1 hz2).2
  rw [e1] at this; exact this
theorem sets_count : ∀ (n : Nat) (c : List Rc), c.length ≤ n → ((setsM c).map fun s => s.data.length).sum = c.length
  | 0, c, hn => by
    obtain rfl : c = [] := List.eq_nil_of_length_eq_zero (by omega)
    rfl
  | n + 1, [], _ => rfl
  | n + 1, y :: r, hn => by
    have hl : (r.dropWhile (belR y)).length ≤ r.length := (List.dropWhile_sublist _).length_le
    simp only [List.length_cons] at hn
    have hr : (r.takeWhile (belR y)).length + (r.dropWhile (belR y)).length = r.length := by
      rw [← List.length_append, List.takeWhile_append_dropWhile]
    rw [setsM_cons, List.map_cons, List.sum_cons, sets_count n _ (by omega)]
    simp only [stR, List.length_cons, List.length_map]
    omega
/-- An owner's types: the row has it. -/
theorem sets_type {l : List Rc} {s : St} (h : s ∈ setsM (canonM l)) : ∃ a ∈ l, sameN a.owner s.owner = true ∧ a.data.ty = s.ty := by
  obtain ⟨y, r, e1, e2, _⟩ := sets_filter _ _ (Nat.le_refl _) (canonM_can l).up s h
  obtain ⟨a, ha, h1, _⟩ := (canonM_can l).of y e2
  have h2 := (keyR_zero a y).1 (keyR_eq h1)
  unfold belR belM at h2
  rw [Bool.and_eq_true, decide_eq_true_eq] at h2
  exact ⟨a, ha, by rw [e1]; exact h2.2, by rw [e1]; exact h2.1⟩
end Go.Proofs.Yteppgeiejknhoaa

/-
  A zone as a plain origin and a plain row: ancestors, cuts, depth, wildcards (plain).
-/
namespace Go.Proofs.Yteppgeiejknhoaa
set_option maxRecDepth 20000
set_option linter.unusedVariables false
/-- The ancestor of n that has k labels. -/
def ancN (n : Nm) (k : Nat) : Nm := n.drop (n.length - k)
theorem ancN_len {n : Nm} {k : Nat} (h : k ≤ n.length) : (ancN n k).length = k := by simp [ancN]; omega
theorem ancN_all (n : Nm) : ancN n n.length = n := by simp [ancN]
theorem ancN_anc {n : Nm} {k j : Nat} (h : j ≤ k) (hk : k ≤ n.length) : ancN (ancN n k) j = ancN n j := by
  unfold ancN
  rw [List.drop_drop, List.length_drop]; congr 1; omega
theorem ancN_cons {x : List UInt8} {n : Nm} {k : Nat} (h : k ≤ n.length) : ancN (x :: n) k = ancN n k := by
  unfold ancN
  rw [List.length_cons, show n.length + 1 - k = (n.length - k) + 1 by omega, List.drop_succ_cons]
theorem sameN_under {a b : Nm} (h : sameN a b = true) (z : Nm) : underN a z = underN b z := by
  rw [Bool.eq_iff_iff, underN_iff, underN_iff, (sameN_iff _ _).1 h]
theorem under_sameN {a b : Nm} (h : sameN a b = true) (n : Nm) : underN n a = underN n b := by
  rw [Bool.eq_iff_iff, underN_iff, underN_iff, (sameN_iff _ _).1 h]
theorem under_anc (n : Nm) (k : Nat) : underN n (ancN n k) = true := by
  rw [underN_iff]
  exact ⟨(foldN n).take (n.length - k), by simp [ancN, foldN, List.map_drop]⟩
theorem under_up {w n : Nm} {k j : Nat} (h : underN w (ancN n k) = true) (hj : j ≤ k) (hk : k ≤ n.length) : underN w (ancN n j) = true := by
  refine underN_trans h ?_
  rw [← ancN_anc hj hk]
  exact under_anc _ _
/-- What n is under, is the ancestor of that length. -/
theorem under_same {n z : Nm} (h : underN n z = true) : sameN (ancN n z.length) z = true := by
  obtain ⟨p, e⟩ := (underN_iff _ _).1 h
  rw [sameN_iff]
  have hl : n.length = p.length + z.length := by have := congrArg List.length e; simpa [foldN] using this
  have : foldN (ancN n z.length) = (foldN n).drop p.length := by
    unfold ancN foldN
    rw [List.map_drop, show n.length - z.length = p.length by omega]
  rw [this, e, List.drop_left]
theorem under_of_same {n z : Nm} (h : sameN (ancN n z.length) z = true) : underN n z = true := by
  rw [← under_sameN h]; exact under_anc _ _
/-- Under an ancestor: for what is no longer than that. -/
theorem anc_under {n z : Nm} {k : Nat} (hk : k ≤ n.length) (hz : z.length ≤ k) : underN (ancN n k) z = underN n z := by
  rw [Bool.eq_iff_iff]
  constructor
  · exact fun h => underN_trans (under_anc _ _) h
  · intro h
    have := under_same h
    rw [← ancN_anc hz hk] at this
    exact under_of_same this

/-! ### depth -/
def deepF : Nat → Nm → Nm → Nat → Nat
  | 0, _, _, f => f
  | k + 1, n, w, f => if underN w (ancN n (f + 1)) then deepF k n w (f + 1) else f
def deepM (n w : Nm) (f : Nat) : Nat := deepF (n.length - f) n w f
def depthM (o : Nm) (rs : List Rc) (n : Nm) : Nat := rs.foldl (fun f r => deepM n r.owner f) o.length
theorem deepF_spec : ∀ (k : Nat) (n w : Nm) (f : Nat), f + k = n.length → f ≤ deepF k n w f ∧ deepF k n w f ≤ n.length ∧ (deepF k n w f = f ∨ underN w (ancN n (deepF k n w f)) = true) ∧ ∀ s, s ≤ n.length → underN w (ancN n s) = true → s ≤ deepF k n w f
  | 0, n, w, f, h => ⟨Nat.le_refl _, by simp [deepF]; omega, .inl rfl, fun s hs _ => by simp [deepF]; omega⟩
  | k + 1, n, w, f, h => by
    unfold deepF
    by_cases hu : underN w (ancN n (f + 1)) = true
    · rw [if_pos hu]
      obtain ⟨h1, h2, h3, h4⟩ := deepF_spec k n w (f + 1) (by omega)
      refine ⟨by omega, h2, .inr ?_, h4⟩
      rcases h3 with e | e
      · rw [e]; exact hu
      · exact e
    · rw [if_neg hu]
      refine ⟨Nat.le_refl _, by omega, .inl rfl, fun s hs hs2 => ?_⟩
      refine Nat.le_of_not_lt fun hlt => hu ?_
      exact under_up hs2 (by omega) hs
theorem deepM_spec {n w : Nm} {f : Nat} (h : f ≤ n.length) : f ≤ deepM n w f ∧ deepM n w f ≤ n.length ∧ (deepM n w f = f ∨ underN w (ancN n (deepM n w f)) = true) ∧ ∀ s, s ≤ n.length → underN w (ancN n s) = true → s ≤ deepM n w f :=
  deepF_spec _ n w f (by omega)
theorem deepM_step {n w : Nm} {f : Nat} (h : f < n.length) : deepM n w f = if underN w (ancN n (f + 1)) then deepM n w (f + 1) else f := by
  unfold deepM
  rw [show n.length - f = (n.length - (f + 1)) + 1 by omega]
  rfl
theorem deepM_end {n w : Nm} {f : Nat} (h : n.length ≤ f) : deepM n w f = f := by
  unfold deepM
  rw [show n.length - f = 0 by omega]; rfl
theorem depthF_spec (n : Nm) : ∀ (rs : List Rc) (f : Nat), f ≤ n.length → f ≤ rs.foldl (fun f r => deepM n r.owner f) f ∧ rs.foldl (fun f r => deepM n r.owner f) f ≤ n.length ∧
    (rs.foldl (fun f r => deepM n r.owner f) f = f ∨ ∃ r ∈ rs, underN r.owner (ancN n (rs.foldl (fun f r => deepM n r.owner f) f)) = true) ∧ ∀ r ∈ rs, ∀ s, s ≤ n.length → underN r.owner (ancN n s) = true → s ≤ rs.foldl (fun f r => deepM n r.owner f) f
  | [], f, h => ⟨Nat.le_refl _, h, .inl rfl, fun r hr => absurd hr (by simp)⟩
  | x :: rs, f, h => by
    obtain ⟨d1, d2, d3, d4⟩ := deepM_spec (w := x.owner) h
    obtain ⟨h1, h2, h3, h4⟩ := depthF_spec n rs (deepM n x.owner f) d2
    rw [List.foldl_cons]
    refine ⟨by omega, h2, ?_, fun r hr s hs hu => ?_⟩
    · rcases h3 with e | ⟨r, hr, e⟩
      · rw [e]
        rcases d3 with e2 | e2
        · exact .inl e2
        · exact .inr ⟨x, by simp, e2⟩
      · exact .inr ⟨r, by simp [hr], e⟩
    · rcases List.mem_cons.1 hr with rfl | hr
      · have := d4 s hs hu; omega
      · exact h4 r hr s hs hu
theorem depthM_spec {o n : Nm} (rs : List Rc) (h : o.length ≤ n.length) : o.length ≤ depthM o rs n ∧ depthM o rs n ≤ n.length ∧ (depthM o rs n = o.length ∨ ∃ r ∈ rs, underN r.owner (ancN n (depthM o rs n)) = true) ∧
    ∀ r ∈ rs, ∀ s, s ≤ n.length → underN r.owner (ancN n s) = true → s ≤ depthM o rs n := depthF_spec n rs _ h
theorem depthM_le {o n : Nm} (rs : List Rc) (h : o.length ≤ n.length) : depthM o rs n ≤ n.length := (depthM_spec rs h).2.1
/-- A depth is known by what it is. -/
theorem depthM_is {o n : Nm} {rs : List Rc} (h : o.length ≤ n.length) {d : Nat} (h1 : o.length ≤ d) (h2 : d ≤ n.length) (h3 : d = o.length ∨ ∃ r ∈ rs, underN r.owner (ancN n d) = true) (h4 : ∀ r ∈ rs, ∀ s, s ≤ n.length → underN r.owner (ancN n s) = true → s ≤ d) : depthM o rs n = d := by
  obtain ⟨e1, e2, e3, e4⟩ := depthM_spec rs h
  apply Nat.le_antisymm
  · rcases e3 with e | ⟨r, hr, e⟩
    · omega
    · exact h4 r hr _ e2 e
  · rcases h3 with e | ⟨r, hr, e⟩
    · omega
    · exact e4 r hr _ h2 e

/-! ### the zone's words -/
def existsM (o : Nm) (rs : List Rc) (n : Nm) : Bool := underN n o && decide (depthM o rs n = n.length)
def encM (o : Nm) (rs : List Rc) (n : Nm) : Nm := if underN n o then ancN n (depthM o rs n) else []
def starM (o : Nm) (rs : List Rc) (n : Nm) : Nm := [42] :: encM o rs n
def sourceM (o : Nm) (rs : List Rc) (n : Nm) : Bool := rs.any fun r => sameN r.owner (starM o rs n)
def pointM (rs : List Rc) (n : Nm) : List Nat := (rs.filter fun r => decide (r.data.ty = 2) && underN n r.owner).map fun r => r.owner.length
def cutM (o : Nm) (rs : List Rc) (n : Nm) : Option Nat := if underN n o then (List.range' (o.length + 1) (n.length - o.length)).find? (fun s => (pointM rs n).contains s) else none
def whereM (o : Nm) (rs : List Rc) (n : Nm) : Int := if underN n o then (match cutM o rs n with | none => 1 | some s => if s = n.length then 2 else 3) else 0
def glueM (rs : List Rc) (h : Nm) : List Dat := ((ofM rs h 1).getD ⟨[], 0, 0, []⟩).data ++ ((ofM rs h 28).getD ⟨[], 0, 0, []⟩).data

theorem existsM_iff {o : Nm} {rs : List Rc} {n : Nm} (h : underN n o = true) : existsM o rs n = true ↔ (n.length = o.length ∨ ∃ r ∈ rs, underN r.owner n = true) := by
  have hl := underN_len h
  unfold existsM
  simp only [h, Bool.true_and, decide_eq_true_eq]
  obtain ⟨e1, e2, e3, e4⟩ := depthM_spec rs hl
  constructor
  · intro e
    rw [e] at e3
    rcases e3 with e3 | ⟨r, hr, e3⟩
    · exact .inl e3
    · rw [ancN_all] at e3; exact .inr ⟨r, hr, e3⟩
  · rintro (e | ⟨r, hr, e⟩)
    · omega
    · have := e4 r hr n.length (Nat.le_refl _) (by rw [ancN_all]; exact e)
      omega
theorem point_has {rs : List Rc} {n : Nm} {s : Nat} : (pointM rs n).contains s = rs.any fun r => decide (r.data.ty = 2) && underN n r.owner && decide (r.owner.length = s) := by
  rw [Bool.eq_iff_iff]
  simp only [pointM, List.contains_iff_mem, List.mem_map, List.mem_filter, List.any_eq_true, Bool.and_eq_true, decide_eq_true_eq]
  constructor
  · rintro ⟨r, ⟨h1, h2, h3⟩, h4⟩; exact ⟨r, h1, ⟨h2, h3⟩, h4⟩
  · rintro ⟨r, h1, ⟨h2, h3⟩, h4⟩; exact ⟨r, ⟨h1, h2, h3⟩, h4⟩
theorem point_anc {rs : List Rc} {n : Nm} {k s : Nat} (hk : k ≤ n.length) (hs : s ≤ k) : (pointM rs (ancN n k)).contains s = (pointM rs n).contains s := by
  rw [point_has, point_has]
  congr 1
  funext r
  by_cases h : r.owner.length = s
  · rw [anc_under hk (by omega)]
  · simp [h]
theorem find_congr {α : Type} {p q : α → Bool} : ∀ (l : List α), (∀ x ∈ l, p x = q x) → l.find? p = l.find? q
  | [], _ => rfl
  | x :: r, h => by
    rw [List.find?_cons, List.find?_cons, h x (by simp), find_congr r fun y hy => h y (by simp [hy])]
theorem find_append {α : Type} {p : α → Bool} (a b : List α) : (a ++ b).find? p = (a.find? p).or (b.find? p) := by
  rw [List.find?_append]
theorem range_split (a k m : Nat) (h : k ≤ m) : List.range' a m = List.range' a k ++ List.range' (a + k) (m - k) := by
  rw [List.range'_append_1]; congr 1; omega
/-- The cut of an ancestor. -/
theorem cut_anc {o : Nm} {rs : List Rc} {n : Nm} {k : Nat} (h : underN n o = true) (h1 : o.length ≤ k) (h2 : k ≤ n.length) : cutM o rs (ancN n k) = (List.range' (o.length + 1) (k - o.length)).find? (fun s => (pointM rs n).contains s) := by
  unfold cutM
  rw [anc_under h2 h1, if_pos h, ancN_len h2]
  refine find_congr _ fun s hs => ?_
  rw [List.mem_range'_1] at hs
  exact point_anc h2 (by omega)
theorem cutM_some {o : Nm} {rs : List Rc} {n : Nm} {s : Nat} (h : cutM o rs n = some s) : underN n o = true ∧ o.length < s ∧ s ≤ n.length := by
  unfold cutM at h
  by_cases hu : underN n o = true
  · rw [if_pos hu] at h
    have := List.mem_of_find?_eq_some h
    rw [List.mem_range'_1] at this
    have hl := underN_len hu
    exact ⟨hu, by omega, by omega⟩
  · rw [if_neg hu] at h; cases h
theorem cut_of_cut {o : Nm} {rs : List Rc} {n : Nm} {s : Nat} (h : cutM o rs n = some s) : cutM o rs (ancN n s) = some s := by
  obtain ⟨hu, h1, h2⟩ := cutM_some h
  rw [cut_anc hu (by omega) h2]
  unfold cutM at h
  rw [if_pos hu, range_split (o.length + 1) (s - o.length) (n.length - o.length) (by omega), find_append] at h
  cases e : (List.range' (o.length + 1) (s - o.length)).find? (fun s => (pointM rs n).contains s) with
  | some x => rw [e] at h; simpa using h
  | none =>
    rw [e] at h
    simp only [Option.none_or] at h
    have := List.mem_of_find?_eq_some h
    rw [List.mem_range'_1] at this
    omega
theorem cut_above {o : Nm} {rs : List Rc} {n : Nm} {s k : Nat} (h : cutM o rs n = some s) (h1 : o.length ≤ k) (hk : k < s) : cutM o rs (ancN n k) = none := by
  obtain ⟨hu, h3, h2⟩ := cutM_some h
  rw [cut_anc hu h1 (by omega)]
  unfold cutM at h
  rw [if_pos hu, range_split (o.length + 1) (k - o.length) (n.length - o.length) (by omega), find_append] at h
  cases e : (List.range' (o.length + 1) (k - o.length)).find? (fun s => (pointM rs n).contains s) with
  | none => rfl
  | some x =>
    rw [e] at h
    simp only [Option.some_or, Option.some.injEq] at h
    have := List.mem_of_find?_eq_some e
    rw [List.mem_range'_1] at this
    omega

/-! ### what a record's writing does not matter to -/
theorem any_canon {p : Rc → Bool} (hp : ∀ a b, compareR a b = 0 → p a = p b) (l : List Rc) : (canonM l).any p = l.any p := by
  rw [Bool.eq_iff_iff, List.any_eq_true, List.any_eq_true]
  constructor
  · rintro ⟨y, hy, h⟩
    obtain ⟨a, ha, h1, _⟩ := canon_covers l y hy
    exact ⟨a, ha, by rw [hp a y h1]; exact h⟩
  · rintro ⟨y, hy, h⟩
    obtain ⟨a, ha, h1, _⟩ := covers_canon l y hy
    exact ⟨a, ha, by rw [hp a y h1]; exact h⟩
theorem cR_owner {a b : Rc} (h : compareR a b = 0) : sameN a.owner b.owner = true := by
  have := (keyR_zero a b).1 (keyR_eq h)
  simp only [belR, belM, Bool.and_eq_true, decide_eq_true_eq] at this
  exact this.2
theorem cR_type {a b : Rc} (h : compareR a b = 0) : a.data.ty = b.data.ty := by
  have := (keyR_zero a b).1 (keyR_eq h)
  simp only [belR, belM, Bool.and_eq_true, decide_eq_true_eq] at this
  exact this.1
/-- Two rows that have the same names and types. -/
def AlikeZ (l m : List Rc) : Prop := (∀ x ∈ l, ∃ y ∈ m, compareR y x = 0) ∧ ∀ x ∈ m, ∃ y ∈ l, compareR y x = 0
theorem AlikeZ.any {l m : List Rc} (h : AlikeZ l m) {p : Rc → Bool} (hp : ∀ a b, compareR a b = 0 → p a = p b) : l.any p = m.any p := by
  rw [Bool.eq_iff_iff, List.any_eq_true, List.any_eq_true]
  constructor
  · rintro ⟨x, hx, e⟩; obtain ⟨y, hy, h1⟩ := h.1 x hx; exact ⟨y, hy, by rw [hp y x h1]; exact e⟩
  · rintro ⟨x, hx, e⟩; obtain ⟨y, hy, h1⟩ := h.2 x hx; exact ⟨y, hy, by rw [hp y x h1]; exact e⟩
theorem alike_canon {l m : List Rc} (h : ∀ x, x ∈ l ↔ x ∈ m) : AlikeZ (canonM l) (canonM m) := by
  constructor
  · intro x hx
    obtain ⟨a, ha, h1, _⟩ := canon_covers l x hx
    obtain ⟨b, hb, h2, _⟩ := covers_canon m a ((h a).1 ha)
    exact ⟨b, hb, cR_eq h2 h1⟩
  · intro x hx
    obtain ⟨a, ha, h1, _⟩ := canon_covers m x hx
    obtain ⟨b, hb, h2, _⟩ := covers_canon l a ((h a).2 ha)
    exact ⟨b, hb, cR_eq h2 h1⟩
theorem AlikeZ.depth {l m : List Rc} (h : AlikeZ l m) {o n : Nm} (hl : o.length ≤ n.length) : depthM o l n = depthM o m n := by
  obtain ⟨e1, e2, e3, e4⟩ := depthM_spec m hl
  refine depthM_is hl e1 e2 ?_ ?_
  · rcases e3 with e | ⟨r, hr, e⟩
    · exact .inl e
    · obtain ⟨y, hy, h1⟩ := h.2 r hr
      exact .inr ⟨y, hy, by rw [sameN_under (cR_owner h1)]; exact e⟩
  · intro r hr s hs hu
    obtain ⟨y, hy, h1⟩ := h.1 r hr
    exact e4 y hy s hs (by rw [sameN_under (cR_owner h1)]; exact hu)
theorem AlikeZ.exists {l m : List Rc} (h : AlikeZ l m) (o n : Nm) : existsM o l n = existsM o m n := by
  unfold existsM
  cases hu : underN n o
  · rfl
  · rw [h.depth (underN_len hu)]
theorem AlikeZ.cut {l m : List Rc} (h : AlikeZ l m) (o n : Nm) : cutM o l n = cutM o m n := by
  unfold cutM
  congr 1
  refine find_congr _ fun s _ => ?_
  rw [point_has, point_has]
  refine h.any fun a b hab => ?_
  rw [cR_type hab, under_sameN (cR_owner hab), show a.owner.length = b.owner.length from by
    have := (sameN_iff _ _).1 (cR_owner hab)
    have := congrArg List.length this
    simpa [foldN] using this]
theorem AlikeZ.where {l m : List Rc} (h : AlikeZ l m) (o n : Nm) : whereM o l n = whereM o m n := by
  unfold whereM; rw [h.cut]

/-! ### what the statements ask -/
theorem exists_up {o : Nm} {rs : List Rc} {n : Nm} {k : Nat} (h : underN n o = true) (he : existsM o rs n = true) (h1 : o.length ≤ k) (h2 : k ≤ n.length) : existsM o rs (ancN n k) = true := by
  rw [existsM_iff (by rw [anc_under h2 h1]; exact h), ancN_len h2]
  rcases (existsM_iff h).1 he with e | ⟨r, hr, e⟩
  · exact .inl (by omega)
  · exact .inr ⟨r, hr, by have := under_up (w := r.owner) (n := n) (k := n.length) (j := k) (by rw [ancN_all]; exact e) h2 (Nat.le_refl _); exact this⟩
theorem where_above {o : Nm} {rs : List Rc} {n : Nm} {s k : Nat} (h : cutM o rs n = some s) (h1 : o.length ≤ k) (hk : k < s) : whereM o rs (ancN n k) = 1 := by
  obtain ⟨hu, h3, h2⟩ := cutM_some h
  unfold whereM
  rw [anc_under (by omega) h1, if_pos hu, cut_above h h1 hk]
theorem where_cut {o : Nm} {rs : List Rc} {n : Nm} {s : Nat} (h : cutM o rs n = some s) : whereM o rs (ancN n s) = 2 := by
  obtain ⟨hu, h3, h2⟩ := cutM_some h
  unfold whereM
  rw [anc_under h2 (by omega), if_pos hu, cut_of_cut h]
  simp only
  rw [ancN_len h2, if_pos rfl]
theorem where_none {o : Nm} {rs : List Rc} {n : Nm} (hu : underN n o = true) (h : cutM o rs n = none) : whereM o rs n = 1 := by
  unfold whereM
  rw [if_pos hu, h]
theorem where_some {o : Nm} {rs : List Rc} {n : Nm} {s : Nat} (h : cutM o rs n = some s) : (whereM o rs n == 2) = sameN n (ancN n s) := by
  obtain ⟨hu, h3, h2⟩ := cutM_some h
  unfold whereM
  rw [if_pos hu, h]
  simp only
  by_cases e : s = n.length
  · rw [if_pos e, e, ancN_all, sameN_refl]; rfl
  · rw [if_neg e, sameN_len (by rw [ancN_len h2]; omega)]; rfl
theorem depth_child {o : Nm} {rs : List Rc} {n : Nm} (x : List UInt8) (h : underN n o = true) (he : existsM o rs n = false) : depthM o rs (x :: n) = depthM o rs n ∧ existsM o rs (x :: n) = false ∧ depthM o rs n < n.length := by
  have hl := underN_len h
  obtain ⟨e1, e2, e3, e4⟩ := depthM_spec rs hl
  have hn : ¬ (n.length = o.length ∨ ∃ r ∈ rs, underN r.owner n = true) := fun hc => by
    have := (existsM_iff h).2 hc
    rw [he] at this; cases this
  have hlt : depthM o rs n < n.length := by
    unfold existsM at he
    simp only [h, Bool.true_and, decide_eq_false_iff_not] at he
    omega
  have hu : underN (x :: n) o = true := underN_trans (by
    have := under_anc (x :: n) n.length
    rwa [ancN_cons (Nat.le_refl _), ancN_all] at this) h
  have hd : depthM o rs (x :: n) = depthM o rs n := by
    refine depthM_is (by simp; omega) e1 (by simp; omega) ?_ ?_
    · rcases e3 with e | ⟨r, hr, e⟩
      · exact .inl e
      · exact .inr ⟨r, hr, by rw [ancN_cons e2]; exact e⟩
    · intro r hr s hs hs2
      by_cases hsn : s ≤ n.length
      · rw [ancN_cons hsn] at hs2
        exact e4 r hr s hsn hs2
      · have := under_up hs2 (j := n.length) (by omega) hs
        rw [ancN_cons (Nat.le_refl _), ancN_all] at this
        exact absurd (.inr ⟨r, hr, this⟩) hn
  refine ⟨hd, ?_, hlt⟩
  unfold existsM
  rw [hd, hu]
  simp; omega
theorem enc_child {o : Nm} {rs : List Rc} {n : Nm} (x : List UInt8) (h : underN n o = true) (he : existsM o rs n = false) : encM o rs (x :: n) = encM o rs n := by
  obtain ⟨h1, h2, h3⟩ := depth_child x h he
  have hu : underN (x :: n) o = true := underN_trans (by
    have := under_anc (x :: n) n.length
    rwa [ancN_cons (Nat.le_refl _), ancN_all] at this) h
  unfold encM
  rw [if_pos h, if_pos hu, h1, ancN_cons (by omega)]
theorem enc_exists {o : Nm} {rs : List Rc} {n : Nm} (h : underN n o = true) : existsM o rs (encM o rs n) = true := by
  have hl := underN_len h
  obtain ⟨e1, e2, e3, e4⟩ := depthM_spec rs hl
  unfold encM
  rw [if_pos h, existsM_iff (by rw [anc_under e2 e1]; exact h), ancN_len e2]
  exact e3
end Go.Proofs.Yteppgeiejknhoaa

/-
  Rows of the call's own whose elements have k cells each; blocks of cells. (XTokR's first half.)
-/
namespace Go.Proofs.Yteppgeiejknhoaa
set_option maxRecDepth 20000
open Go.RowKit Go.Shelf
set_option maxRecDepth 20000

def OwnK {α : Type} (k : Nat) (T : TypeId) (enc : α → List Value) (W : World) (base : Nat) (v : Value) (xs : List α) : Prop := W.ownsRow base T k v xs.length (xs.flatMap enc)
structure ElemK (k : Nat) (T S : TypeId) (bytes : Nat) : Prop where
  ht : Try.prog.underlying S = some (.slice T)
  info : ∃ i z, Try.prog.info? T = some i ∧ i.zero = some z ∧ i.size = k ∧ i.bytes = bytes ∧ z.cells.size = k

theorem kcell {W : World} {B : Nat} {cs : Array Value} {t : TypeId} (h : W.heap[B]? = some (.cells cs t)) (j : Nat) (v : Value) (hv : cs[j]? = some v) : W.cell? ⟨B, j, none⟩ = some v := by
  simp only [World.cell?, h]
  simpa using hv
theorem kset {W : World} {B : Nat} {cs : Array Value} {t : TypeId} (h : W.heap[B]? = some (.cells cs t)) (j : Nat) (v : Value) : (W.setCell ⟨B, j, none⟩ v).heap[B]? = some (.cells (cs.setIfInBounds j v) t) := by
  obtain ⟨hlt, hk⟩ := Array.getElem?_eq_some_iff.1 h
  show (W.heap.modify B _)[B]? = _
  rw [Array.getElem?_eq_getElem (by rw [Array.size_modify]; exact hlt), Array.getElem_modify_self, hk]
  rfl
theorem kgrown_set (W : World) (b j : Nat) (v : Value) : W.grownBy (W.setCell ⟨b, j, none⟩ v) (some b) :=
  ⟨rfl, rfl, rfl, (KeepsWalks.setCell W _ v).size, fun k _ hk => Below.heap_setCell _ _ _ k (fun e => hk (by rw [e]))⟩
theorem kfrozen {W : World} {B : Nat} {cs : Array Value} {t : TypeId} (h : W.heap[B]? = some (.cells cs t)) (j : Nat) : W.frozen? ⟨B, j, none⟩ = false := by simp [World.frozen?, h]
theorem kblock_lt {W : World} {B : Nat} {o : Obj} (h : W.heap[B]? = some o) : B < W.heap.size := (Array.getElem?_eq_some_iff.1 h).1
theorem knew (W : World) (o : Obj) : (W.alloc o).heap[W.heap.size]? = some o := by
  show (W.heap.push o)[W.heap.size]? = some o
  simp

theorem kdrew {n : Nat} {a w : World} (h : Below n a w) : Below n a w.drew := h.trans ⟨rfl, rfl, rfl, Nat.le_refl _, fun _ _ => rfl⟩
theorem kregion_tail {P : Program} {id : Nat} {Q : Exit → Act → World → Prop} {a : Act} {w : World} {l : List Oper} (n : Nat) (hm : P.follows .mixedOrders = true) (hB : Region.lexTailB .any l.toArray n = true)
    (h : wpStill P l.toArray w.drew (fun a' => wpList P l.toArray Q (l.drop n) a' w.drew) (l.take n) a) : (Code.region id l.toArray true).wp P Q a w := wp_region_still_tail n hm hB h

theorem kg_refl (w : World) (r : Option Nat) : w.grownBy w r := ⟨rfl, rfl, rfl, Nat.le_refl _, fun _ _ _ => rfl⟩
theorem kg_trans {a b c : World} {r : Option Nat} (h : a.grownBy b r) (g : b.grownBy c r) : a.grownBy c r :=
  ⟨g.os.trans h.os, g.tape.trans h.tape, g.output.trans h.output, Nat.le_trans h.size g.size, fun k hk hne => (g.block k (Nat.lt_of_lt_of_le hk h.size) hne).trans (h.block k hk hne)⟩
theorem kg_drew (w : World) (r : Option Nat) : w.grownBy w.drew r := ⟨rfl, rfl, rfl, Nat.le_refl _, fun _ _ _ => rfl⟩
theorem kg_alloc (w : World) (o : Obj) (r : Option Nat) : w.grownBy (w.alloc o) r := by
  have h := World.grownBy_alloc w o none
  exact ⟨h.os, h.tape, h.output, h.size, fun k hk _ => h.block k hk (by simp)⟩

section
variable {α : Type} {k : Nat} {T S : TypeId} {enc : α → List Value}
theorem OwnK.alloc {W : World} {base : Nat} {v : Value} {xs : List α} (h : OwnK k T enc W base v xs) (o : Obj) : OwnK k T enc (W.alloc o) base v xs := World.ownsRow.alloc h o
theorem OwnK.nil (W : World) (base : Nat) : OwnK k T enc W base (.slice none 0 0) [] := World.ownsRow_nil _ _ _ _
theorem OwnK.base_le {W : World} {base : Nat} {v : Value} {xs : List α} (h : OwnK k T enc W base v xs) : ∀ b, v.ownBlock = some b → base ≤ b := by
  intro b hk
  rcases h.2 with ⟨rfl, _⟩ | ⟨g, cap, cur, rfl, hb, _⟩
  · simp [Value.ownBlock] at hk
  · obtain rfl : g = b := by simpa [Value.ownBlock] using hk
    exact hb
theorem OwnK.shape {W : World} {base : Nat} {v : Value} {xs : List α} (h : OwnK k T enc W base v xs) : ∃ a c, v = .slice a xs.length c := by
  rcases h.2 with ⟨rfl, h0⟩ | ⟨g, cap, cur, rfl, _⟩
  · exact ⟨none, 0, by rw [h0]⟩
  · exact ⟨_, _, rfl⟩
theorem OwnK.kept {W W' : World} {row : Option Nat} {base : Nat} {v : Value} {xs : List α} (h : OwnK k T enc W base v xs) (hg : W.grownBy W' row) (hne : v.ownBlock = none ∨ v.ownBlock ≠ row) : OwnK k T enc W' base v xs := World.ownsRow.kept h hg hne
theorem OwnK.below {W W' : World} {base : Nat} {v : Value} {xs : List α} (h : OwnK k T enc W base v xs) (hb : Below W.heap.size W W') : OwnK k T enc W' base v xs :=
  h.kept (row := none) ⟨hb.os, hb.tape, hb.output, hb.size, fun k hk _ => hb.block k hk⟩ (by cases v.ownBlock <;> simp)
theorem OwnK.lt {W : World} {base : Nat} {v : Value} {xs : List α} (h : OwnK k T enc W base v xs) : ∀ b, v.ownBlock = some b → b < W.heap.size := by
  intro b hk
  rcases h.2 with ⟨rfl, _⟩ | ⟨g, cap, cur, rfl, hb, hg, _⟩
  · simp [Value.ownBlock] at hk
  · obtain rfl : g = b := by simpa [Value.ownBlock] using hk
    exact (Array.getElem?_eq_some_iff.1 hg).1
theorem OwnK.weaken {W : World} {base b2 : Nat} {v : Value} {xs : List α} (h : OwnK k T enc W base v xs) (hb : b2 ≤ base) : OwnK k T enc W b2 v xs := by
  refine ⟨h.1, ?_⟩
  rcases h.2 with hn | ⟨g, cap, cur, e, hg, rest⟩
  · exact .inl hn
  · exact .inr ⟨g, cap, cur, e, by omega, rest⟩
theorem OwnK.ne_block {W : World} {base : Nat} {v : Value} {xs : List α} (h : OwnK k T enc W base v xs) {B : Nat} {cs : Array Value} {t : TypeId} (hB : W.heap[B]? = some (.cells cs t)) (ht : t ≠ T) : some B ≠ v.ownBlock := by
  rcases h.2 with ⟨rfl, _⟩ | ⟨g, cap, cur, rfl, _, hg, _⟩
  · simp [Value.ownBlock]
  · intro e
    obtain rfl : B = g := by simpa [Value.ownBlock] using e
    rw [hg] at hB
    cases hB
    exact ht rfl
theorem OwnK.apart {β : Type} {k' : Nat} {T' : TypeId} {enc' : β → List Value} {W : World} {base base' : Nat} {v v' : Value} {xs : List α} {ys : List β} (h : OwnK k T enc W base v xs) (h' : OwnK k' T' enc' W base' v' ys) (hT : T ≠ T') : v.ownBlock = none ∨ v.ownBlock ≠ v'.ownBlock := by
  rcases h.2 with ⟨rfl, _⟩ | ⟨g, cap, cur, rfl, _, hg, _⟩
  · left; rfl
  · right
    intro e
    exact h'.ne_block hg hT e
theorem OwnK.kept2 {β : Type} {k' : Nat} {T' : TypeId} {enc' : β → List Value} {W W' : World} {base base' : Nat} {v v' : Value} {xs : List α} {ys : List β} (h : OwnK k T enc W base v xs) (h' : OwnK k' T' enc' W base' v' ys) (hT : T ≠ T') (hg : W.grownBy W' v'.ownBlock) : OwnK k T enc W' base v xs :=
  h.kept hg (h.apart h' hT)
theorem OwnK.keptB {W : World} {base : Nat} {v : Value} {xs : List α} (h : OwnK k T enc W base v xs) {B : Nat} {cs : Array Value} {t : TypeId} (hB : W.heap[B]? = some (.cells cs t)) (ht : t ≠ T) (j : Nat) (u : Value) : OwnK k T enc (W.setCell ⟨B, j, none⟩ u) base v xs :=
  h.kept (kgrown_set W B j u) (.inr (fun e => h.ne_block hB ht e.symm))
/-- The row cut to its head. -/
theorem OwnK.cut {W : World} {base : Nat} {a : Option Addr} {n c : Nat} {xs : List α} (h : OwnK k T enc W base (.slice a n c) xs) (m : Nat) (hm : m ≤ xs.length) (henc : ∀ x, (enc x).length = k) : OwnK k T enc W base (.slice a m c) (xs.take m) := by
  have hlen : ∀ l : List α, (l.flatMap enc).length = l.length * k := by
    intro l; induction l with
    | nil => simp
    | cons x l ih => simp [ih, henc, Nat.add_mul, Nat.add_comm]
  have htake : ∀ (l : List α) (m : Nat), (l.take m).flatMap enc = (l.flatMap enc).take (m * k) := by
    intro l; induction l with
    | nil => intro m; simp
    | cons x l ih =>
      intro m
      cases m with
      | zero => simp
      | succ m =>
        rw [List.take_succ_cons, List.flatMap_cons, List.flatMap_cons, ih, Nat.succ_mul, Nat.add_comm (m * k) k, List.take_append, List.take_of_length_le (l := enc x) (by rw [henc]; omega), henc, Nat.add_sub_cancel_left]
  unfold OwnK World.ownsRow at h ⊢
  have hl : (xs.take m).length = m := by rw [List.length_take]; omega
  rw [hl]
  refine ⟨by rw [hlen, hl], ?_⟩
  rcases h.2 with ⟨e, h0⟩ | ⟨g, cap, cur, e, hb, hg, hc, hmx, hsz, htk⟩
  · cases e
    left
    exact ⟨by congr 1; omega, by omega⟩
  · cases e
    right
    refine ⟨g, c, cur, rfl, hb, hg, by omega, hmx, hsz, ?_⟩
    rw [htake, ← htk, List.take_take]
    congr 1
    exact (Nat.min_eq_left (Nat.mul_le_mul_right k hm)).symm

theorem wpl_append_k {ops : Array Oper} {rest : List Oper} {o : Oper} {a : Act} {Q : Exit → Act → World → Prop} (W : World) (hgd : o.guard = none) (s x : Operand) {bytes : Nat} (hE : ElemK k T S bytes) (hk0 : 0 < k)
    (ho : o.op = .call { callee := .builtin .append, args := #[s, x], argTypes := #[S, S] }) (hone : ∀ x : α, ∀ u ∈ enc x, u.oneCell' = true)
    (base : Nat) (v : Value) (xs : List α) (hs : a.eval s = v) (hown : OwnK k T enc W base v xs)
    (cells : List Value) (news : List α) (hcells : cells = news.flatMap enc) (hcl : cells.length = news.length * k) (m c : Nat) (hx : a.eval x = .slice (some ⟨W.heap.size, 0, none⟩) m c) (hm : m = news.length)
    (hbase : base ≤ W.heap.size) (hk : xs.length + news.length ≤ maxLen) (hk2 : (xs.length + news.length) * bytes ≤ 140737488355328)
    (h : ∀ v' w', OwnK k T enc w' base v' (xs ++ news) → W.grownBy w' v.ownBlock → (v'.ownBlock = v.ownBlock ∨ v'.ownBlock = some (W.heap.size + 1)) → wpList Try.prog ops Q rest (a.put o.dst v') w') :
    wpList Try.prog ops Q (o :: rest) a (W.alloc (.cells cells.toArray T)) := by
  subst hcells hm
  obtain ⟨ht, i, z, hi, hz, hz1, hz2, hzc⟩ := hE
  refine wpList_append_own_at _ hgd s x S ho base T i z k bytes ht hi hz hz1 hz2 hzc hk0 v xs.length (xs.flatMap enc) hs (hown.alloc _) ⟨W.heap.size, 0, none⟩ news.length c (news.flatMap enc) hx hcl (cells_new W _ _) (by intro u hu; obtain ⟨y, _, hy⟩ := List.mem_flatMap.1 hu; exact hone y u hy) hk hk2 (by simp; omega) ?_
  intro v' w' h1 h2 _ h4
  refine h v' w' ?_ (grownBy_of_alloc h2) (by simpa using h4)
  unfold OwnK
  rw [List.length_append, List.flatMap_append]
  exact h1
end

end Go.Proofs.Yteppgeiejknhoaa

/-
  A drawn region of reads and calls, over any class of worlds.
-/
namespace Go.Proofs.Yteppgeiejknhoaa
set_option maxRecDepth 20000
open Go.RowKit Go.Shelf

/-- A world of a class. -/
structure WIn (C : World → Prop) where
  w : World
  ok : C w
theorem wp_region_cls {P : Program} {id : Nat} {Q : Exit → Act → World → Prop} {a : Act} {w : World} {l : List Oper} (C : World → Prop) (hm : P.follows .mixedOrders = true) (hB : Region.lexB .any l.toArray = true) (hC : C w.drew)
    (h : wpQuiet P l.toArray (fun w' => ∃ p : WIn C, w' = p.w) (fun a' => ∀ w', (∃ p : WIn C, w' = p.w) → Q .normal a' w') l a) : (Code.region id l.toArray true).wp P Q a w :=
  wp_region_quiet (C := fun w' => ∃ p : WIn C, w' = p.w) hm hB ⟨⟨w.drew, hC⟩, rfl⟩ (by simpa using h)
theorem Calls.cls {C : World → Prop} {P : Program} {f : FuncId} {args : Array Value} {w : World} {v : Value}
    (h : Calls P f args w fun e w' => e = .returned v ∧ C w') : Calls P f args w fun e w'' => e = .returned v ∧ ∃ q : WIn C, w'' = q.w :=
  h.mono fun _ w' ⟨he, hc⟩ => ⟨he, ⟨w', hc⟩, rfl⟩
end Go.Proofs.Yteppgeiejknhoaa

/-
  Slices whose elements have k cells, wherever they lie; slices.Clone of them.
-/
namespace Go.Proofs.Yteppgeiejknhoaa
set_option maxRecDepth 20000
open Go.RowKit Go.Shelf
set_option maxRecDepth 20000
set_option linter.unusedVariables false
set_option linter.unusedSimpArgs false

/-- The slice value v reads as these elements, each by its cells. -/
def SlK (W : World) (v : Value) (css : List (List Value)) : Prop :=
  ∃ a c, v = .slice a css.length c ∧ css.length ≤ c ∧ (a = none → c = 0) ∧ (css = [] ∨ ∃ b off, a = some ⟨b, off, none⟩ ∧ b < W.heap.size ∧ ∀ j u, css.flatten[j]? = some u → W.cell? ⟨b, off + j, none⟩ = some u)
theorem SlK.below {W W' : World} {v : Value} {css : List (List Value)} (h : SlK W v css) (hb : Below W.heap.size W W') : SlK W' v css := by
  obtain ⟨a, c, e, h1, h2, h⟩ := h
  refine ⟨a, c, e, h1, h2, ?_⟩
  rcases h with h | ⟨b, off, ea, hlt, hc⟩
  · exact .inl h
  · exact .inr ⟨b, off, ea, Nat.lt_of_lt_of_le hlt hb.size, fun j u hj => (hb.cell (p := ⟨b, off + j, none⟩) hlt).trans (hc j u hj)⟩
theorem SlK.nil (W : World) : SlK W (.slice none 0 0) [] := ⟨none, 0, rfl, Nat.le_refl _, fun _ => rfl, .inl rfl⟩
theorem slK_one {W : World} {v : Value} {xs : List Value} (h : SlAt W v xs) : SlK W v (xs.map fun x => [x]) := by
  obtain ⟨a, c, e, h1, h2, h⟩ := h
  refine ⟨a, c, by rw [List.length_map]; exact e, by rw [List.length_map]; exact h1, h2, ?_⟩
  have hf : ∀ xs : List Value, (xs.map fun x => [x]).flatten = xs := fun xs => by
    induction xs with
    | nil => rfl
    | cons x r ih => rw [List.map_cons, List.flatten_cons, ih]; rfl
  rcases h with h | ⟨b, off, ea, hlt, hc⟩
  · subst h; exact .inl rfl
  · refine .inr ⟨b, off, ea, hlt, fun j u hj => ?_⟩
    rw [hf] at hj
    obtain ⟨hj1, hj2⟩ := List.getElem?_eq_some_iff.1 hj
    rw [← hj2]; exact hc j hj1
abbrev OwnC (k : Nat) (T : TypeId) (W : World) (base : Nat) (v : Value) (css : List (List Value)) : Prop := OwnK k T (fun cs : List Value => cs) W base v css
theorem flat_id (css : List (List Value)) : css.flatMap (fun cs => cs) = css.flatten := by simp [List.flatMap]
theorem flat_len {k : Nat} : ∀ (css : List (List Value)), (∀ cs ∈ css, cs.length = k) → css.flatten.length = css.length * k
  | [], _ => by simp
  | c :: r, h => by
    rw [List.flatten_cons, List.length_append, h c (by simp), flat_len r (fun x hx => h x (by simp [hx])), List.length_cons, Nat.succ_mul]; omega
theorem SlK.of_own {k : Nat} {T : TypeId} {W : World} {base : Nat} {v : Value} {css : List (List Value)} (h : OwnC k T W base v css) (hk : ∀ cs ∈ css, cs.length = k) : SlK W v css := by
  rcases h.2 with ⟨rfl, h0⟩ | ⟨g, cap, cur, rfl, hb, hg, hc, hm, hsz, htk⟩
  · obtain rfl := List.eq_nil_of_length_eq_zero h0
    exact SlK.nil W
  · refine ⟨_, _, rfl, hc, (fun e => by cases e), .inr ⟨g, 0, rfl, (Array.getElem?_eq_some_iff.1 hg).1, fun j u hj => ?_⟩⟩
    have hl := flat_len css hk
    have hj' : j < css.length * k := by rw [← hl]; exact (List.getElem?_eq_some_iff.1 hj).1
    have h3 : cur.toList[j]? = some u := by
      have : (cur.toList.take (css.length * k))[j]? = some u := by rw [htk, flat_id]; exact hj
      rw [List.getElem?_take, if_pos hj'] at this
      exact this
    simp only [World.cell?, hg, Nat.zero_add]
    simpa using h3
/-- append of a whole slice to one of the call's own. -/
theorem wpl_append_slk {S T : TypeId} {k bytes : Nat} {ops : Array Oper} {rest : List Oper} {o : Oper} {a : Act} {Q : Exit → Act → World → Prop} (W : World) (hgd : o.guard = none) (s x : Operand) (hE : ElemK k T S bytes) (hk0 : 0 < k)
    (ho : o.op = .call { callee := .builtin .append, args := #[s, x], argTypes := #[S, S] })
    (base : Nat) (v : Value) (xs : List (List Value)) (hs : a.eval s = v) (hown : OwnC k T W base v xs)
    (src : Value) (ys : List (List Value)) (hx : a.eval x = src) (hsrc : SlK W src ys) (hyk : ∀ cs ∈ ys, cs.length = k) (hy1 : ∀ cs ∈ ys, ∀ u ∈ cs, u.oneCell' = true)
    (hbase : base ≤ W.heap.size) (hk : xs.length + ys.length ≤ maxLen) (hk2 : (xs.length + ys.length) * bytes ≤ 140737488355328)
    (h : ∀ v' w', OwnC k T w' base v' (xs ++ ys) → W.grownBy w' v.ownBlock → wpList Try.prog ops Q rest (a.put o.dst v') w') :
    wpList Try.prog ops Q (o :: rest) a W := by
  obtain ⟨ht, i, z, hi, hz, hz1, hz2, hzc⟩ := hE
  obtain ⟨a0, c0, rfl, h1, h2, h3⟩ := hsrc
  have hlen := flat_len ys hyk
  cases a0 with
  | none =>
    have e3 := h2 rfl
    subst e3
    have e4 : ys = [] := List.eq_nil_of_length_eq_zero (by omega)
    subst e4
    refine wpList_append_own_none hgd s x S ho base _ i k ht hi v _ _ hs hown hx ?_
    exact h v W (by rw [List.append_nil]; exact hown) ⟨rfl, rfl, rfl, Nat.le_refl _, fun _ _ _ => rfl⟩
  | some ad =>
    have hcell : ∀ j u, ys.flatten[j]? = some u → W.cell? (ad.add j) = some u := by
      intro j u hj
      rcases h3 with h3 | ⟨b, off, ea, _, hc⟩
      · subst h3; simp at hj
      · cases ea; rw [Addr.add_lit]; exact hc j u hj
    refine wpList_append_own _ hgd s x S ho base _ i z k bytes ht hi hz hz1 hz2 hzc hk0 v xs.length (xs.flatMap fun cs => cs) hs hown ad ys.length c0 ys.flatten hx hlen hcell (by intro u hu; obtain ⟨y, hy, hu⟩ := List.mem_flatten.1 hu; exact hy1 y hy u hu) hk hk2 hbase ?_
    intro v' w' g1 g2 _
    refine h v' w' ?_ g2
    unfold OwnC OwnK
    rw [List.length_append, List.flatMap_append, flat_id ys]
    exact g1
theorem ownC_lit (k : Nat) (T : TypeId) (w : World) : OwnC k T (w.alloc (.cells #[] T)) w.heap.size (.slice (some ⟨w.heap.size, 0, none⟩) 0 0) [] := World.ownsRow_made w #[] 0 (Nat.le_refl _) (Nat.zero_le _) (by simp)

theorem elem_rec : ElemK 7 50 24 136 := ⟨Try.underlying24, _, _, rfl, rfl, rfl, rfl, rfl⟩
set_option maxHeartbeats 2000000 in
theorem clone_rec (v : Value) (css : List (List Value)) (w : World) (hA : SlK w v css) (hk : ∀ cs ∈ css, cs.length = 7) (h1 : ∀ cs ∈ css, ∀ u ∈ cs, u.oneCell' = true) (hl : css.length ≤ 1000000000000) :
    Calls Try.prog 83 #[v] w fun e w' => ∃ v', e = .returned v' ∧ OwnC 7 50 w' w.heap.size v' css ∧ Below w.heap.size w w' := by
  obtain ⟨a, c, rfl, hc1, hc2, hx⟩ := id hA
  cases a with
  | none =>
    have hnil : css = [] := List.eq_nil_of_length_eq_zero (by have := hc2 rfl; omega)
    subst hnil
    obtain rfl := hc2 rfl
    clear hc2 hx
    have q := fun w => Lib.run_eql_slice_nil (P := Try.prog) w 24 _ none 0 0 0 0 Try.underlying24
    go_enter Try.func83, Try.ntmps83
    go_wp2
    go_ret
    exact ⟨_, rfl, OwnK.nil _ _, Below.refl _ _⟩
  | some ad =>
    have hlit := ownC_lit 7 50 w
    have q := fun w => Lib.run_eql_slice_nil (P := Try.prog) w 24 _ (some ad) css.length c 0 0 Try.underlying24
    go_enter Try.func83, Try.ntmps83
    go_wp2_with (at_builtin; refine wpl_append_slk (w.alloc (.cells #[] 50)) rfl (.tmp 5) (.tmp 6) elem_rec (by decide) rfl w.heap.size _ [] rfl hlit _ css rfl (hA.below ((Below.refl _ w).alloc (Nat.le_refl _) _)) hk h1 (by simp) (by unfold maxLen; simp; omega) (by simp; omega) ?_; intro v' w' hown' hg')
    go_ret
    exact ⟨v', rfl, hown', ((Below.refl _ w).alloc (Nat.le_refl _) _).grown hg' (by simp) hlit.base_le⟩

theorem elem_u32 : ElemK 1 43 45 4 := ⟨Try.underlying45, _, _, rfl, rfl, rfl, rfl, rfl⟩
set_option maxHeartbeats 2000000 in
theorem clone_u32 (v : Value) (css : List (List Value)) (w : World) (hA : SlK w v css) (hk : ∀ cs ∈ css, cs.length = 1) (h1 : ∀ cs ∈ css, ∀ u ∈ cs, u.oneCell' = true) (hl : css.length ≤ 1000000000000) :
    Calls Try.prog 86 #[v] w fun e w' => ∃ v', e = .returned v' ∧ OwnC 1 43 w' w.heap.size v' css ∧ Below w.heap.size w w' := by
  obtain ⟨a, c, rfl, hc1, hc2, hx⟩ := id hA
  cases a with
  | none =>
    have hnil : css = [] := List.eq_nil_of_length_eq_zero (by have := hc2 rfl; omega)
    subst hnil
    obtain rfl := hc2 rfl
    clear hc2 hx
    have q := fun w => Lib.run_eql_slice_nil (P := Try.prog) w 45 _ none 0 0 0 0 Try.underlying45
    go_enter Try.func86, Try.ntmps86
    go_wp2
    go_ret
    exact ⟨_, rfl, OwnK.nil _ _, Below.refl _ _⟩
  | some ad =>
    have hlit := ownC_lit 1 43 w
    have q := fun w => Lib.run_eql_slice_nil (P := Try.prog) w 45 _ (some ad) css.length c 0 0 Try.underlying45
    go_enter Try.func86, Try.ntmps86
    go_wp2_with (at_builtin; refine wpl_append_slk (w.alloc (.cells #[] 43)) rfl (.tmp 5) (.tmp 6) elem_u32 (by decide) rfl w.heap.size _ [] rfl hlit _ css rfl (hA.below ((Below.refl _ w).alloc (Nat.le_refl _) _)) hk h1 (by simp) (by unfold maxLen; simp; omega) (by simp; omega) ?_; intro v' w' hown' hg')
    go_ret
    exact ⟨v', rfl, hown', ((Below.refl _ w).alloc (Nat.le_refl _) _).grown hg' (by simp) hlit.base_le⟩

theorem elem_str : ElemK 1 9 22 16 := ⟨Try.underlying22, _, _, rfl, rfl, rfl, rfl, rfl⟩
set_option maxHeartbeats 2000000 in
theorem clone_str (v : Value) (css : List (List Value)) (w : World) (hA : SlK w v css) (hk : ∀ cs ∈ css, cs.length = 1) (h1 : ∀ cs ∈ css, ∀ u ∈ cs, u.oneCell' = true) (hl : css.length ≤ 1000000000000) :
    Calls Try.prog 87 #[v] w fun e w' => ∃ v', e = .returned v' ∧ OwnC 1 9 w' w.heap.size v' css ∧ Below w.heap.size w w' := by
  obtain ⟨a, c, rfl, hc1, hc2, hx⟩ := id hA
  cases a with
  | none =>
    have hnil : css = [] := List.eq_nil_of_length_eq_zero (by have := hc2 rfl; omega)
    subst hnil
    obtain rfl := hc2 rfl
    clear hc2 hx
    have q := fun w => Lib.run_eql_slice_nil (P := Try.prog) w 22 _ none 0 0 0 0 Try.underlying22
    go_enter Try.func87, Try.ntmps87
    go_wp2
    go_ret
    exact ⟨_, rfl, OwnK.nil _ _, Below.refl _ _⟩
  | some ad =>
    have hlit := ownC_lit 1 9 w
    have q := fun w => Lib.run_eql_slice_nil (P := Try.prog) w 22 _ (some ad) css.length c 0 0 Try.underlying22
    go_enter Try.func87, Try.ntmps87
    go_wp2_with (at_builtin; refine wpl_append_slk (w.alloc (.cells #[] 9)) rfl (.tmp 5) (.tmp 6) elem_str (by decide) rfl w.heap.size _ [] rfl hlit _ css rfl (hA.below ((Below.refl _ w).alloc (Nat.le_refl _) _)) hk h1 (by simp) (by unfold maxLen; simp; omega) (by simp; omega) ?_; intro v' w' hown' hg')
    go_ret
    exact ⟨v', rfl, hown', ((Below.refl _ w).alloc (Nat.le_refl _) _).grown hg' (by simp) hlit.base_le⟩

theorem elem_byte : ElemK 1 5 46 1 := ⟨Try.underlying46, _, _, rfl, rfl, rfl, rfl, rfl⟩
set_option maxHeartbeats 2000000 in
theorem clone_byte (v : Value) (css : List (List Value)) (w : World) (hA : SlK w v css) (hk : ∀ cs ∈ css, cs.length = 1) (h1 : ∀ cs ∈ css, ∀ u ∈ cs, u.oneCell' = true) (hl : css.length ≤ 1000000000000) :
    Calls Try.prog 88 #[v] w fun e w' => ∃ v', e = .returned v' ∧ OwnC 1 5 w' w.heap.size v' css ∧ Below w.heap.size w w' := by
  obtain ⟨a, c, rfl, hc1, hc2, hx⟩ := id hA
  cases a with
  | none =>
    have hnil : css = [] := List.eq_nil_of_length_eq_zero (by have := hc2 rfl; omega)
    subst hnil
    obtain rfl := hc2 rfl
    clear hc2 hx
    have q := fun w => Lib.run_eql_slice_nil (P := Try.prog) w 46 _ none 0 0 0 0 Try.underlying46
    go_enter Try.func88, Try.ntmps88
    go_wp2
    go_ret
    exact ⟨_, rfl, OwnK.nil _ _, Below.refl _ _⟩
  | some ad =>
    have hlit := ownC_lit 1 5 w
    have q := fun w => Lib.run_eql_slice_nil (P := Try.prog) w 46 _ (some ad) css.length c 0 0 Try.underlying46
    go_enter Try.func88, Try.ntmps88
    go_wp2_with (at_builtin; refine wpl_append_slk (w.alloc (.cells #[] 5)) rfl (.tmp 5) (.tmp 6) elem_byte (by decide) rfl w.heap.size _ [] rfl hlit _ css rfl (hA.below ((Below.refl _ w).alloc (Nat.le_refl _) _)) hk h1 (by simp) (by unfold maxLen; simp; omega) (by simp; omega) ?_; intro v' w' hown' hg')
    go_ret
    exact ⟨v', rfl, hown', ((Below.refl _ w).alloc (Nat.le_refl _) _).grown hg' (by simp) hlit.base_le⟩
end Go.Proofs.Yteppgeiejknhoaa

/-
  A drawn region of reads and calls, over any class of worlds, inside a fence.
-/
namespace Go.Proofs.Yteppgeiejknhoaa
set_option maxRecDepth 20000
open Go.RowKit Go.Shelf

theorem wpIn_region_cls {F : Fence} {n : Nat} {P : Program} {id : Nat} {Q : Exit → Act → World → Prop} {a : Act} {w : World} {l : List Oper} (C : World → Prop) (hro : F.round = none) (hm : P.follows .mixedOrders = true) (hB : Region.lexB .any l.toArray = true) (hC : C w.drew)
    (h : wpQuietIn F n P l.toArray (fun w' => ∃ p : WIn C, w' = p.w) (fun a' => ∀ w', (∃ p : WIn C, w' = p.w) → Q .normal a' w') l a) : (Code.region id l.toArray true).wpIn F n P Q a w :=
  wpIn_region_quiet (C := fun w' => ∃ p : WIn C, w' = p.w) hro hm hB ⟨⟨w.drew, hC⟩, rfl⟩ (by simpa using h)
theorem CallsIn.cls {F : Fence} {r : Nat} {C : World → Prop} {P : Program} {f : FuncId} {args : Array Value} {w : World} {v : Value}
    (h : CallsIn F r P f args w fun e w' => e = .returned v ∧ C w') : CallsIn F r P f args w fun e w'' => e = .returned v ∧ ∃ q : WIn C, w'' = q.w :=
  h.mono fun _ w' ⟨he, hc⟩ => ⟨he, ⟨w', hc⟩, rfl⟩
end Go.Proofs.Yteppgeiejknhoaa

