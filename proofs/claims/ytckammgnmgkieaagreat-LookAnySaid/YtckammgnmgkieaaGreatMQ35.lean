import Derived.RangeFuncNested
import Derived.Deep.RegionHeld3
import Derived.Test.YtckammgnmgkieaaGreatMQ27
namespace Go.Proofs.YtckammgnmgkieaaGreat
set_option maxRecDepth 20000
open Go.RowKit Go.Shelf
open Stb (COrd)
def keyR (a b : Rc) : Int := orI (qai a.owner b.owner) (cmpI a.data.ty b.data.ty)
theorem cord_keyR : COrd keyR := qb7 (qaV qcA Rc.owner) (qaV (qaV qco Dat.ty) Rc.data)
theorem cmpI_zero {a b : Int} : cmpI a b = 0 ↔ a = b := by
 unfold cmpI
 constructor
 ·intro h
  by_cases h1 : a < b
  ·rw [if_pos h1] at h; cases h
  ·rw [if_neg h1] at h
   by_cases h2 : b < a
   ·simp [h2] at h
   ·omega
 ·rintro rfl; simp
theorem qaQ (a b : Rc) : keyR a b = 0 ↔ belR b a = true := by
 unfold keyR belR belM orI
 rw [Bool.and_eq_true, decide_eq_true_eq]
 by_cases h : qai a.owner b.owner = 0
 ·rw [if_pos h]
  exact ⟨fun h2 => ⟨cmpI_zero.1 h2, (qcB _ _).1 h⟩, fun h2 => cmpI_zero.2 h2.1⟩
 ·rw [if_neg h]
  exact ⟨fun h2 => absurd h2 h, fun h2 => absurd ((qcB _ _).2 h2.2) h⟩
theorem qez {a b : Rc} (h : qac a b ≤ 0) : keyR a b ≤ 0 := by
 unfold qac qao orI at h
 unfold keyR orI
 by_cases h1 : qai a.owner b.owner = 0
 ·rw [if_pos h1] at h ⊢
  by_cases h2 : cmpI a.data.ty b.data.ty = 0
  ·omega
  ·rw [if_neg h2] at h; exact h
 ·rw [if_neg h1] at h ⊢; exact h
theorem qgp {a b : Rc} (h : qac a b = 0) : keyR a b = 0 := by
 have h1 := qez (a := a) (b := b) (by omega)
 have h2 := qez (a := b) (b := a) (by have := qa5 a b; omega)
 have h3 := cord_keyR.anti a b
 omega
theorem qdK {a b : Rc} (h : keyR a b = 0) : keyR b a = 0 := by have := cord_keyR.anti a b; omega
theorem qmK {o : Nm} {t : Int} {a b : Rc} (h : keyR a b = 0) : belM o t a = belM o t b := by
 have h1 := (qaQ a b).1 h
 unfold belR belM at h1
 rw [Bool.and_eq_true, decide_eq_true_eq] at h1
 unfold belM
 rw [h1.1]
 congr 1
 have e := h1.2
 cases h2 : sameN b.owner o with
 | true => exact qda e h2
 | false =>
  cases h3 : sameN a.owner o with
  | false => rfl
  | true => rw [qdM] at e; rw [qda e h3] at h2; cases h2
theorem qlu {p : Rc → Bool} {x : Rc} : ∀ (c : List Rc), (∀ y ∈ c, 0 < qac y x) → insR (c.filter p) x = x :: c.filter p := fun c h => by
 cases e : c.filter p with
 | nil => rfl
 | cons z r =>
  have hz : z ∈ c := (List.mem_filter.1 (show z ∈ c.filter p by rw [e]; simp)).1
  have := h z hz
  rw [insR, if_neg (by omega), if_neg (by omega)]
theorem qe0 {p : Rc → Bool} (hp : ∀ a b, qac a b = 0 → p a = p b) (x : Rc) : ∀ (c : List Rc), StrictR c → (∀ y ∈ c, p ⟨y.owner, minT y.ttl x.ttl, y.data⟩ = p y) → (insR c x).filter p = if p x = true then insR (c.filter p) x else c.filter p
 | [], _, _ => by
  by_cases hx : p x = true
  ·simp [insR, hx]
  ·simp [insR, hx]
 | y :: r, hs, hm => by
  have hs2 : StrictR r := (List.pairwise_cons.1 hs).2
  have hy := (List.pairwise_cons.1 hs).1
  have ih := qe0 hp x r hs2 (fun z hz => hm z (by simp [hz]))
  by_cases h1 : qac y x < 0
  ·rw [insR, if_pos h1, List.filter_cons, ih, List.filter_cons]
   by_cases hpy : p y = true
   ·rw [if_pos hpy, if_pos hpy]
    by_cases hx : p x = true
    ·rw [if_pos hx, if_pos hx, insR, if_pos h1]
    ·rw [if_neg hx, if_neg hx]
   ·rw [if_neg hpy, if_neg hpy]
  ·by_cases h2 : qac y x = 0
   ·have e := hp y x h2
    have em := hm y (by simp)
    rw [insR, if_neg h1, if_pos h2, List.filter_cons, em, List.filter_cons]
    by_cases hpy : p y = true
    ·rw [if_pos hpy, if_pos hpy, if_pos (by rw [← e]; exact hpy), insR, if_neg h1, if_pos h2]
    ·rw [if_neg hpy, if_neg hpy, if_neg (by rw [← e]; exact hpy)]
   ·rw [insR, if_neg h1, if_neg h2, List.filter_cons]
    by_cases hx : p x = true
    ·rw [if_pos hx, if_pos hx]
     refine (qlu (y :: r) fun z hz => ?_).symm
     rcases List.mem_cons.1 hz with rfl | hz
     ·have := qgd z x; omega
     ·have h3 := hy z hz
      have h4 : qac x y ≤ 0 := by have := qa5 y x; omega
      have h5 := ql0 h4 h3
      have := qa5 x z
      omega
    ·rw [if_neg hx, if_neg hx]
theorem qha (o : Nm) (t : Int) (l : List Rc) : canonM (l.filter (belM o t)) = (canonM l).filter (belM o t) :=
 qaW (P := fun l => canonM (l.filter (belM o t)) = (canonM l).filter (belM o t)) rfl (fun l x ih => by
  rw [qa2, qe0 (fun a b h => qmK (qgp h)) x _ (qb2 l).up (fun y _ => rfl), List.filter_append]
  by_cases hx : belM o t x = true
  ·rw [if_pos hx, List.filter_cons, if_pos hx, List.filter_nil, qa2, ih]
  ·rw [if_neg hx, List.filter_cons, if_neg hx, List.filter_nil, List.append_nil, ih]) l
theorem qdX {p : Rc → Bool} : ∀ (l : List Rc), (∀ z ∈ l, p z = true) → l.takeWhile p = l ∧ l.dropWhile p = [] := fun l h => by
 have := qbI (p := p) l [] h (fun z hz => by cases hz)
 simpa using this
theorem qcz {p : Rc → Bool} : ∀ (l : List Rc), ∀ z ∈ l.takeWhile p, p z = true
 | [], z, h => by cases h
 | x :: r, z, h => by
  by_cases hx : p x = true
  ·rw [List.takeWhile_cons, if_pos hx] at h
   rcases List.mem_cons.1 h with rfl | h
   ·exact hx
   ·exact qcz r z h
  ·rw [List.takeWhile_cons, if_neg hx] at h; cases h
theorem qjL {y : Rc} {r : List Rc} (hs : StrictR (y :: r)) : ∀ z ∈ r.dropWhile (belR y), belR y z = false := by
 have hd := qb6 (belR y) r
 have hsub : ∀ z ∈ r.dropWhile (belR y), z ∈ r := fun z hz => (List.dropWhile_sublist _).subset hz
 have hst : StrictR (r.dropWhile (belR y)) := List.Pairwise.sublist (List.dropWhile_sublist _) (List.pairwise_cons.1 hs).2
 cases e : r.dropWhile (belR y) with
 | nil => intro z hz; cases hz
 | cons d D =>
  rw [e] at hd hsub hst
  have h1 : belR y d = false := hd d (by simp)
  have h2 : qac y d < 0 := (List.pairwise_cons.1 hs).1 d (hsub d (by simp))
  have k1 : keyR d y ≠ 0 := fun h => by rw [(qaQ d y).1 h] at h1; cases h1
  have k2 : keyR y d ≤ 0 := qez (by omega)
  have k3 : keyR y d < 0 := by have := cord_keyR.anti y d; omega
  intro z hz
  rcases List.mem_cons.1 hz with rfl | hz
  ·exact h1
  ·have h3 : qac d z < 0 := (List.pairwise_cons.1 hst).1 z hz
   have k4 : keyR d z ≤ 0 := qez (by omega)
   cases hb : belR y z with
   | false => rfl
   | true =>
    have k5 : keyR z y = 0 := (qaQ z y).2 hb
    have k6 := cord_keyR.trans d z y k4 (by omega)
    have := cord_keyR.anti d y
    omega
theorem qki {a b c : Rc} (h1 : belR a b = true) (h2 : belR a c = true) : belR b c = true := by
 have k1 := (qaQ b a).2 h1
 have k2 := (qaQ c a).2 h2
 have k3 := qdK k1
 refine (qaQ c b).1 ?_
 have t1 := cord_keyR.trans c a b (by omega) (by omega)
 have t2 := cord_keyR.trans b a c (by omega) (by have := qdK k2; omega)
 have := cord_keyR.anti c b
 omega
theorem qdh : ∀ (n : Nat) (c : List Rc), c.length ≤ n → StrictR c → ∀ s ∈ setsM c, ∃ y r, s = stR y r ∧ y ∈ c ∧ c.filter (belM s.owner s.ty) = y :: r
 | 0, c, hn, _, s, h => by
  obtain rfl : c = [] := List.eq_nil_of_length_eq_zero (by omega)
  cases h
 | n + 1, [], _, _, s, h => by cases h
 | n + 1, y :: r, hn, hs, s, h => by
  have hl : (r.dropWhile (belR y)).length ≤ r.length := (List.dropWhile_sublist _).length_le
  have hst : StrictR (r.dropWhile (belR y)) := List.Pairwise.sublist (List.dropWhile_sublist _) (List.pairwise_cons.1 hs).2
  have hr : r = r.takeWhile (belR y) ++ r.dropWhile (belR y) := (List.takeWhile_append_dropWhile).symm
  have hno := qjL hs
  have hall := qcz (p := belR y) r
  rw [qa0] at h
  rcases List.mem_cons.1 h with rfl | h
  ·refine ⟨y, r.takeWhile (belR y), rfl, by simp, ?_⟩
   have e : (fun z => belM (stR y (r.takeWhile (belR y))).owner (stR y (r.takeWhile (belR y))).ty z) = belR y := rfl
   show (y :: r).filter (belR y) = _
   rw [List.filter_cons, if_pos (qcZ y)]
   congr 1
   rw (occs := .pos [1]) [hr]
   rw [List.filter_append, List.filter_eq_self.2 hall, List.filter_eq_nil_iff.2 (fun z hz => by rw [hno z hz]; simp), List.append_nil]
  ·simp only [List.length_cons] at hn
   obtain ⟨y', r', e1, e2, e3⟩ := qdh n _ (by omega) hst s h
   refine ⟨y', r', e1, List.mem_cons_of_mem _ ((List.dropWhile_sublist _).subset e2), ?_⟩
   have hb : ∀ z, belR y z = true → belM s.owner s.ty z = false := fun z hz => by
    cases hh : belM s.owner s.ty z with
    | false => rfl
    | true =>
     exfalso
     have h5 : belR y' z = true := by rw [e1] at hh; exact hh
     have h6 := hno y' e2
     have k1 := (qaQ z y').2 h5
     have k2 := (qaQ z y).2 hz
     have : belR z y' = true := (qaQ y' z).1 (qdK k1)
     have h7 : belR z y = true := (qaQ y z).1 (qdK k2)
     rw [qki h7 this] at h6; cases h6
   rw [List.filter_cons, if_neg (by rw [hb y (qcZ y)]; simp)]
   rw (occs := .pos [1]) [hr]
   rw [List.filter_append, List.filter_eq_nil_iff.2 (fun z hz => by rw [hb z (hall z hz)]; simp), List.nil_append, e3]
theorem qk0 {y : Rc} {r : List Rc} (h : ∀ z ∈ r, belR y z = true) : setsM (y :: r) = [stR y r] := by
 rw [qa0, (qdX r h).1, (qdX r h).2]; rfl
def ofM (l : List Rc) (o : Nm) (t : Int) : Option St := (setsM (canonM (l.filter (belM o t)))).head?
theorem qdL : ∀ (n : Nat) (c : List Rc), c.length ≤ n → ((setsM c).map fun s => s.data.length).sum = c.length
 | 0, c, hn => by
  obtain rfl : c = [] := List.eq_nil_of_length_eq_zero (by omega)
  rfl
 | n + 1, [], _ => rfl
 | n + 1, y :: r, hn => by
  have hl : (r.dropWhile (belR y)).length ≤ r.length := (List.dropWhile_sublist _).length_le
  simp only [List.length_cons] at hn
  have hr : (r.takeWhile (belR y)).length + (r.dropWhile (belR y)).length = r.length := by
   rw [← List.length_append, List.takeWhile_append_dropWhile]
  rw [qa0, List.map_cons, List.sum_cons, qdL n _ (by omega)]
  simp only [stR, List.length_cons, List.length_map]
  omega
end Go.Proofs.YtckammgnmgkieaaGreat
namespace Go.Proofs.YtckammgnmgkieaaGreat
set_option maxRecDepth 20000
def ancN (n : Nm) (k : Nat) : Nm := n.drop (n.length - k)
theorem qcV {n : Nm} {k : Nat} (h : k ≤ n.length) : (ancN n k).length = k := by simp [ancN]; omega
theorem qe4 (n : Nm) : ancN n n.length = n := by simp [ancN]
theorem qhK {n : Nm} {k j : Nat} (h : j ≤ k) (hk : k ≤ n.length) : ancN (ancN n k) j = ancN n j := by
 unfold ancN
 rw [List.drop_drop, List.length_drop]; congr 1; omega
theorem qdb {a b : Nm} (h : sameN a b = true) (n : Nm) : underN n a = underN n b := by
 rw [Bool.eq_iff_iff, qbi, qbi, (qaw _ _).1 h]
theorem qbr (n : Nm) (k : Nat) : underN n (ancN n k) = true := by
 rw [qbi]
 exact ⟨(foldN n).take (n.length - k), by simp [ancN, foldN, List.map_drop]⟩
theorem qmi {w n : Nm} {k j : Nat} (h : underN w (ancN n k) = true) (hj : j ≤ k) (hk : k ≤ n.length) : underN w (ancN n j) = true := by
 refine qcW h ?_
 rw [← qhK hj hk]
 exact qbr _ _
theorem qfI {n z : Nm} (h : underN n z = true) : sameN (ancN n z.length) z = true := by
 obtain ⟨p, e⟩ := (qbi _ _).1 h
 rw [qaw]
 have hl : n.length = p.length + z.length := by have := congrArg List.length e; simpa [foldN] using this
 have : foldN (ancN n z.length) = (foldN n).drop p.length := by
  unfold ancN foldN
  rw [List.map_drop, show n.length - z.length = p.length by omega]
 rw [this, e, List.drop_left]
theorem qhp {n z : Nm} (h : sameN (ancN n z.length) z = true) : underN n z = true := by
 rw [← qdb h]; exact qbr _ _
theorem qkV {n z : Nm} {k : Nat} (hk : k ≤ n.length) (hz : z.length ≤ k) : underN (ancN n k) z = underN n z := by
 rw [Bool.eq_iff_iff]
 constructor
 ·exact fun h => qcW (qbr _ _) h
 ·intro h
  have := qfI h
  rw [← qhK hz hk] at this
  exact qhp this
def deepF : Nat → Nm → Nm → Nat → Nat
 | 0, _, _, f => f
 | k + 1, n, w, f => if underN w (ancN n (f + 1)) then deepF k n w (f + 1) else f
def deepM (n w : Nm) (f : Nat) : Nat := deepF (n.length - f) n w f
def depthM (o : Nm) (rs : List Rc) (n : Nm) : Nat := rs.foldl (fun f r => deepM n r.owner f) o.length
theorem qfp : ∀ (k : Nat) (n w : Nm) (f : Nat), f + k = n.length → f ≤ deepF k n w f ∧ deepF k n w f ≤ n.length ∧ (deepF k n w f = f ∨ underN w (ancN n (deepF k n w f)) = true) ∧ ∀ s, s ≤ n.length → underN w (ancN n s) = true → s ≤ deepF k n w f
 | 0, n, w, f, h => ⟨qN0, by simp [deepF]; omega, .inl rfl, fun s hs _ => by simp [deepF]; omega⟩
 | k + 1, n, w, f, h => by
  unfold deepF
  by_cases hu : underN w (ancN n (f + 1)) = true
  ·rw [if_pos hu]
   obtain ⟨h1, h2, h3, h4⟩ := qfp k n w (f + 1) (by omega)
   refine ⟨by omega, h2, .inr ?_, h4⟩
   rcases h3 with e | e
   ·rw [e]; exact hu
   ·exact e
  ·rw [if_neg hu]
   refine ⟨qN0, by omega, .inl rfl, fun s hs hs2 => ?_⟩
   refine Nat.le_of_not_lt fun hlt => hu ?_
   exact qmi hs2 (by omega) hs
theorem qfC {n w : Nm} {f : Nat} (h : f ≤ n.length) : f ≤ deepM n w f ∧ deepM n w f ≤ n.length ∧ (deepM n w f = f ∨ underN w (ancN n (deepM n w f)) = true) ∧ ∀ s, s ≤ n.length → underN w (ancN n s) = true → s ≤ deepM n w f :=
 qfp _ n w f (by omega)
theorem qfO {n w : Nm} {f : Nat} (h : f < n.length) : deepM n w f = if underN w (ancN n (f + 1)) then deepM n w (f + 1) else f := by
 unfold deepM
 rw [show n.length - f = (n.length - (f + 1)) + 1 by omega]
 rfl
theorem qeg {n w : Nm} {f : Nat} (h : n.length ≤ f) : deepM n w f = f := by
 unfold deepM
 rw [show n.length - f = 0 by omega]; rfl
theorem qe3 (n : Nm) : ∀ (rs : List Rc) (f : Nat), f ≤ n.length → f ≤ rs.foldl (fun f r => deepM n r.owner f) f ∧ rs.foldl (fun f r => deepM n r.owner f) f ≤ n.length ∧
 (rs.foldl (fun f r => deepM n r.owner f) f = f ∨ ∃ r ∈ rs, underN r.owner (ancN n (rs.foldl (fun f r => deepM n r.owner f) f)) = true) ∧ ∀ r ∈ rs, ∀ s, s ≤ n.length → underN r.owner (ancN n s) = true → s ≤ rs.foldl (fun f r => deepM n r.owner f) f
 | [], f, h => ⟨qN0, h, .inl rfl, fun r hr => absurd hr (by simp)⟩
 | x :: rs, f, h => by
  obtain ⟨d1, d2, d3, d4⟩ := qfC (w := x.owner) h
  obtain ⟨h1, h2, h3, h4⟩ := qe3 n rs (deepM n x.owner f) d2
  rw [List.foldl_cons]
  refine ⟨by omega, h2, ?_, fun r hr s hs hu => ?_⟩
  ·rcases h3 with e | ⟨r, hr, e⟩
   ·rw [e]
    rcases d3 with e2 | e2
    ·exact .inl e2
    ·exact .inr ⟨x, by simp, e2⟩
   ·exact .inr ⟨r, by simp [hr], e⟩
  ·rcases List.mem_cons.1 hr with rfl | hr
   ·have := d4 s hs hu; omega
   ·exact h4 r hr s hs hu
theorem qcm {o n : Nm} (rs : List Rc) (h : o.length ≤ n.length) : o.length ≤ depthM o rs n ∧ depthM o rs n ≤ n.length ∧ (depthM o rs n = o.length ∨ ∃ r ∈ rs, underN r.owner (ancN n (depthM o rs n)) = true) ∧
 ∀ r ∈ rs, ∀ s, s ≤ n.length → underN r.owner (ancN n s) = true → s ≤ depthM o rs n := qe3 n rs _ h
theorem qgK {o n : Nm} (rs : List Rc) (h : o.length ≤ n.length) : depthM o rs n ≤ n.length := (qcm rs h).2.1
def qaq (o : Nm) (rs : List Rc) (n : Nm) : Bool := underN n o && decide (depthM o rs n = n.length)
def encM (o : Nm) (rs : List Rc) (n : Nm) : Nm := if underN n o then ancN n (depthM o rs n) else []
def starM (o : Nm) (rs : List Rc) (n : Nm) : Nm := [42] :: encM o rs n
def qaT (o : Nm) (rs : List Rc) (n : Nm) : Bool := rs.any fun r => sameN r.owner (starM o rs n)
def pointM (rs : List Rc) (n : Nm) : List Nat := (rs.filter fun r => decide (r.data.ty = 2) && underN n r.owner).map fun r => r.owner.length
def cutM (o : Nm) (rs : List Rc) (n : Nm) : Option Nat := if underN n o then (List.range' (o.length + 1) (n.length - o.length)).find? (fun s => (pointM rs n).contains s) else none
def whereM (o : Nm) (rs : List Rc) (n : Nm) : Int := if underN n o then (match cutM o rs n with | none => 1 | some s => if s = n.length then 2 else 3) else 0
def glueM (rs : List Rc) (h : Nm) : List Dat := ((ofM rs h 1).getD ⟨[], 0, 0, []⟩).data ++ ((ofM rs h 28).getD ⟨[], 0, 0, []⟩).data
theorem qc8 {o : Nm} {rs : List Rc} {n : Nm} (h : underN n o = true) : qaq o rs n = true ↔ (n.length = o.length ∨ ∃ r ∈ rs, underN r.owner n = true) := by
 have hl := qa1 h
 unfold qaq
 simp only [h, Bool.true_and, decide_eq_true_eq]
 obtain ⟨e1, e2, e3, e4⟩ := qcm rs hl
 constructor
 ·intro e
  rw [e] at e3
  rcases e3 with e3 | ⟨r, hr, e3⟩
  ·exact .inl e3
  ·rw [qe4] at e3; exact .inr ⟨r, hr, e3⟩
 ·rintro (e | ⟨r, hr, e⟩)
  ·omega
  ·have := e4 r hr n.length (qN0) (by rw [qe4]; exact e)
   omega
theorem qgZ {rs : List Rc} {n : Nm} {s : Nat} : (pointM rs n).contains s = rs.any fun r => decide (r.data.ty = 2) && underN n r.owner && decide (r.owner.length = s) := by
 rw [Bool.eq_iff_iff]
 simp only [pointM, List.contains_iff_mem, List.mem_map, List.mem_filter, List.any_eq_true, Bool.and_eq_true, decide_eq_true_eq]
 constructor
 ·rintro ⟨r, ⟨h1, h2, h3⟩, h4⟩; exact ⟨r, h1, ⟨h2, h3⟩, h4⟩
 ·rintro ⟨r, h1, ⟨h2, h3⟩, h4⟩; exact ⟨r, ⟨h1, h2, h3⟩, h4⟩
theorem qfE {α : Type} {p q : α → Bool} : ∀ (l : List α), (∀ x ∈ l, p x = q x) → l.find? p = l.find? q
 | [], _ => rfl
 | x :: r, h => by
  rw [List.find?_cons, List.find?_cons, h x (by simp), qfE r fun y hy => h y (by simp [hy])]
theorem qiF (a k m : Nat) (h : k ≤ m) : List.range' a m = List.range' a k ++ List.range' (a + k) (m - k) := by
 rw [List.range'_append_1]; congr 1; omega
theorem qh6 {a b : Rc} (h : qac a b = 0) : sameN a.owner b.owner = true := by
 have := (qaQ a b).1 (qgp h)
 simp only [belR, belM, Bool.and_eq_true, decide_eq_true_eq] at this
 exact this.2
theorem qjv {a b : Rc} (h : qac a b = 0) : a.data.ty = b.data.ty := by
 have := (qaQ a b).1 (qgp h)
 simp only [belR, belM, Bool.and_eq_true, decide_eq_true_eq] at this
 exact this.1
def AlikeZ (l m : List Rc) : Prop := (∀ x ∈ l, ∃ y ∈ m, qac y x = 0) ∧ ∀ x ∈ m, ∃ y ∈ l, qac y x = 0
theorem AlikeZ.any {l m : List Rc} (h : AlikeZ l m) {p : Rc → Bool} (hp : ∀ a b, qac a b = 0 → p a = p b) : l.any p = m.any p := by
 rw [Bool.eq_iff_iff, List.any_eq_true, List.any_eq_true]
 constructor
 ·rintro ⟨x, hx, e⟩; obtain ⟨y, hy, h1⟩ := h.1 x hx; exact ⟨y, hy, by rw [hp y x h1]; exact e⟩
 ·rintro ⟨x, hx, e⟩; obtain ⟨y, hy, h1⟩ := h.2 x hx; exact ⟨y, hy, by rw [hp y x h1]; exact e⟩
theorem AlikeZ.cut {l m : List Rc} (h : AlikeZ l m) (o n : Nm) : cutM o l n = cutM o m n := by
 unfold cutM
 congr 1
 refine qfE _ fun s _ => ?_
 rw [qgZ, qgZ]
 refine h.any fun a b hab => ?_
 rw [qjv hab, qdb (qh6 hab), show a.owner.length = b.owner.length from by
  have := (qaw _ _).1 (qh6 hab)
  have := congrArg List.length this
  simpa [foldN] using this]
theorem AlikeZ.where {l m : List Rc} (h : AlikeZ l m) (o n : Nm) : whereM o l n = whereM o m n := by
 unfold whereM; rw [h.cut]
theorem qfr {o : Nm} {rs : List Rc} {n : Nm} (h : underN n o = true) : qaq o rs (encM o rs n) = true := by
 have hl := qa1 h
 obtain ⟨e1, e2, e3, e4⟩ := qcm rs hl
 unfold encM
 rw [if_pos h, qc8 (by rw [qkV e2 e1]; exact h), qcV e2]
 exact e3
end Go.Proofs.YtckammgnmgkieaaGreat
namespace Go.Proofs.YtckammgnmgkieaaGreat
set_option maxRecDepth 100000
set_option maxHeartbeats 4000000
open Go.RowKit Go.Shelf
theorem qhU (a0 : Option Addr) (n0 c0 : Nat) (a1 : Option Addr) (n1 c1 : Nat) (tt : Int) (o : Nm) (t : Int) (cs : List Value) (r : Rc) (w : World) (hO : NmAt w (.slice a0 n0 c0) o) (hko : NmOK o) (hA : RcAt w cs r) (hk : RcOK r) :
 Calls Tryz.prog 111 #[.agg #[.slice a0 n0 c0, .int .i64 t, .int .u32 tt, .slice a1 n1 c1], .agg cs.toArray] w fun e w' => e = .returned (.bool (belM o t r)) ∧ Below w.heap.size w w' := by
 have hsh := hA.shape
 obtain ⟨⟨p0, q0, k0⟩, ⟨p3, q3, k3⟩, ⟨p4, q4, k4⟩, ⟨p5, q5, k5⟩, ⟨p6, q6, k6⟩, e0⟩ := hsh
 simp only at e0
 subst e0
 have hA1 : NmAt w (.slice p0 q0 k0) r.owner := by
  obtain ⟨_, _, _, _, _, e5, g1, _⟩ := hA
  simp only [List.cons.injEq, and_true] at e5
  rw [e5.1]; exact g1
 have HN := qH0 (fun W (hb : Below w.heap.size w W) => qbL (.slice p0 q0 k0) (.slice a0 n0 c0) r.owner o _ rfl W (hA1.below hb) (hO.below hb) hk.1 hko)
 have hR := qH0 (show belM o t r = (decide (r.data.ty = t) && sameN r.owner o) from rfl)
 generalize belM o t r = res at *
 generalize sameN r.owner o = q at *
 generalize r.data.ty = x at *
 generalize (r.ttl : Int) = tr at *
 have hb0 := fun o o' => ((Below.refl w.heap.size w).alloc (qN0) o).alloc (o := o') (by simp)
 have hbb := hb0 (Obj.cells #[.slice a0 n0 c0, .int .i64 t, .int .u32 tt, .slice a1 n1 c1] 38) (Obj.cells #[.slice p0 q0 k0, .int .u32 tr, .int .i64 x, .slice p3 q3 k3, .slice p4 q4 k4, .slice p5 q5 k5, .slice p6 q6 k6] 103)
 have hn := HN.out _ hbb
 have HBB := qH0 hbb
 clear hbb hb0 HN hA hA1 hO hko hk
 by_cases hx : x = t
 ·subst hx
  have HR : Hid (res = q) := qH0 (by rw [hR.out]; simp)
  clear hR
  go_enter Tryz.func111, Tryz.ntmps111
  go_wp2_with fail
  refine hn.mono ?_
  rintro e w1 ⟨rfl, hb1⟩
  have HB1 := qH0 (qB0 HBB.out hb1)
  clear hb1 hn
  go_wp2
  go_ret
  exact ⟨by rw [HR.out]; rfl, HB1.out⟩
 ·have HR : Hid (res = false) := qH0 (by rw [hR.out]; simp [hx])
  have hxb : (x == t) = false := by simpa using hx
  clear hR hn
  go_enter Tryz.func111, Tryz.ntmps111
  go_wp2
  go_ret
  exact ⟨by rw [HR.out]; rfl, HBB.out⟩
end Go.Proofs.YtckammgnmgkieaaGreat
namespace Go.Proofs.YtckammgnmgkieaaGreat
set_option maxRecDepth 20000
open Go Go.RowKit Go.Shelf
def qgv {α : Type} (F : Fence) (n : Nat) (P : Program) (g : Nat) (lb : Array Value) (encs : α → Array Value) (D : α → World → Prop) (Kp : World → World → Prop) (S Sp : List α → Prop) (N : Nat) (w : World) : Prop :=
 ∀ (l : Nat) (J Jx : List α → World → Prop) (W : World), Below w.heap.size w W → AbidesFrom W.heap.size J → AbidesFrom W.heap.size Jx →
  (∀ pre x W1, J pre W1 → D x W1 → pre.length < N → YieldAt F (n - 1) P l (encs x) W1 fun e W' =>
    (e = .returned (.bool true) ∧ J (pre ++ [x]) W' ∧ Kp W1 W') ∨ (e = .returned (.bool false) ∧ Jx (pre ++ [x]) W')) →
  J [] W →
  CallsIn F n P g (#[.func (.yield l) #[] #[]] ++ lb) W fun e W' => (∃ v, e = .returned v) ∧ ((∃ xs, S xs ∧ J xs W') ∨ (∃ pre, Sp pre ∧ Jx pre W'))
structure TwoBk (m : Nat) (r : Loop) (W : World) : Prop where
 lp : W.heap[m + 1]? = some (.loop r)
 dfr : W.heap[m]? = some (.deferred (some []))
theorem TwoBk.lt {m : Nat} {r : Loop} {W : World} (h : TwoBk m r W) : m + 1 < W.heap.size := (Array.getElem?_eq_some_iff.1 h.lp).1
theorem TwoBk.grown {m : Nat} {r : Loop} {W W' : World} {row : Option Nat} (h : TwoBk m r W) (hg : W.grownBy W' row) (hr : ∀ k, row = some k → k ≠ m ∧ k ≠ m + 1) : TwoBk m r W' :=
 ⟨(hg.block _ h.lt (fun e => (hr _ e.symm).2 rfl)).trans h.lp, (hg.block _ (by have := h.lt; omega) (fun e => (hr _ e.symm).1 rfl)).trans h.dfr⟩
theorem TwoBk.walks {m B : Nat} {r : Loop} {W W' : World} {row : Option Nat} (h : TwoBk m r W) (hg : W.grownBy W' row) (hr : ∀ k, row = some k → B ≤ k ∧ ∃ o : Obj, W.heap[k]? = some o ∧ o.isWalk = true) : TwoBk m r W' :=
 h.grown hg fun k e => by
  obtain ⟨_, o, ho, hw⟩ := hr k e
  refine ⟨fun e2 => ?_, fun e2 => ?_⟩
  ·subst e2; rw [h.dfr] at ho; cases ho; cases hw
  ·subst e2; rw [h.lp] at ho; cases ho; cases hw
theorem TwoBk.kept {m : Nat} {r : Loop} {W W' : World} (h : TwoBk m r W) (hk : KeepsFrom m W W') : TwoBk m r W' := ⟨hk.same _ _ (by omega) h.lp rfl, hk.same _ _ (qN0) h.dfr rfl⟩
theorem TwoBk.turn {m : Nat} {r : Loop} {W : World} (h : TwoBk m r W) (r' : Loop) : TwoBk m r' (W.putObj (m + 1) (.loop r')) := ⟨World.putObj_heap_same h.lt, (World.putObj_heap_other (by omega)).trans h.dfr⟩
variable {F : Fence} {n : Nat} {P : Program}
theorem qe5 {α : Type} {g : Operand} {ps : Array Tmp} {assign body : Code} {Q : Exit → Act → World → Prop} {a : Act} {w : World}
 (hro : F.round = none) (h1 : 1 ≤ n) {gf : Nat} {lb : Array Value} (hg : a.eval g = .func (.func gf) #[] lb) (hFg : F.fn gf) (eg : ∀ args w, (callFunc gf args).run P w = .ok (.enter gf args) w)
 {encs : α → Array Value} {D : α → World → Prop} {Kp : World → World → Prop} {S Sp : List α → Prop} {N : Nat} {w0 : World} (hseq : qgv F (n - 1) P gf lb encs D Kp S Sp N w0)
 (hKt : ∀ {A B C : World}, Kp A B → Kp B C → Kp A C) (hKb : ∀ (W : World) (l : Nat) (o o' : Obj), w.heap.size ≤ l → W.heap[l]? = some o → o.isCells = false → o.isWalk = false → Kp W (W.putObj l o')) (hb0 : Below w0.heap.size w0 w) (hps : ∀ x, (encs x).size = ps.size)
 (I : List α → World → Prop) (Ix : Code → List α → World → Prop) (hI : OwnFrom w.heap.size I) (hIx : ∀ c, OwnFrom w.heap.size (Ix c)) (h0 : I [] w) (Ax : α → Act → World → Prop) (hAx : ∀ a', OwnFrom w.heap.size (fun x W => Ax x a' W))
 (hassign : ∀ (l : Nat) (pre : List α) (x : α) (W : World) (K : Act → World → Prop), I pre W → D x W → (∀ a' W', KeepsFrom w.heap.size W W' → Kp W W' → I pre W' → Ax x a' W' → K a' W') →
   assign.wpIn (F.inRound l) (n - 1 - 1) P (Exit.then K (fun _ _ _ => False)) { tmps := (ps.zip (encs x)).foldl (fun t (p, v) => t.setIfInBounds p v) a.tmps, defers := [] } W)
 (hbody : ∀ (l : Nat) (pre : List α) (x : α) (a' : Act) (W : World), I pre W → Ax x a' W → pre.length < N → body.wpIn (F.inRound l) (n - 1 - 1) P (ownPostG w.heap.size Kp I Ix (pre ++ [x]) W) a' W)
 (hdone : ∀ (d : Nat) (xs : List α) (W : World), w.heap.size ≤ d → S xs → I xs W → W.heap[d]? = some (.deferred (some [])) → Q .normal { a with defers := { target := .collected d, args := #[] } :: a.defers } W)
 (hstop : ∀ (d : Nat) (c : Code) (pre : List α) (W : World), w.heap.size ≤ d → Sp pre → Ix c pre W → W.heap[d]? = some (.deferred (some [])) → c.wpIn F n P Q { a with defers := { target := .collected d, args := #[] } :: a.defers } W) :
 (Code.rangeFunc g ps assign body).wpIn F n P Q a w := by
 refine wpIn_rangeFunc fun fn hfn => ?_
 rw [hro]
 obtain ⟨m, hm⟩ : ∃ m, w.heap.size = m := ⟨_, rfl⟩
 obtain ⟨R, hR⟩ : ∃ R : LoopState → Option Code → Loop, R = fun st pe => { state := st, pending := pe, fn, tmps := a.tmps, params := ps, assign, body, defers := m } := ⟨_, rfl⟩
 obtain ⟨W1, hW1⟩ : ∃ W1, (w.alloc (.deferred (some []))).alloc (.loop (R .ready none)) = W1 := ⟨_, rfl⟩
 have hsz : W1.heap.size = m + 2 := by rw [← hW1]; simp [hm]
 have hB1 : TwoBk m (R .ready none) W1 := by
  refine ⟨?_, ?_⟩
  ·have h := World.alloc_heap_new (w.alloc (.deferred (some []))) (.loop (R .ready none))
   rw [World.size_alloc, hm, hW1] at h; exact h
  ·rw [← hW1, ← hm]; exact (Below.heap_alloc _ _ _ (by simp)).trans (World.alloc_heap_new w _)
 have hbw : Below m w W1 := by rw [← hW1, ← hm]; exact ((Below.refl _ w).alloc (qN0) _).alloc (by simp) _
 rw [hm] at hI hKb hassign hbody hdone hstop
 have hAx' : ∀ a', OwnFrom m (fun x W => Ax x a' W) := fun a' => by rw [← hm]; exact hAx a'
 have hIx' : ∀ c, OwnFrom m (Ix c) := fun c => by rw [← hm]; exact hIx c
 have noCells : ∀ {A : World} {row : Option Nat}, (∀ k, row = some k → W1.heap.size ≤ k ∧ ∃ o : Obj, A.heap[k]? = some o ∧ o.isWalk = true) → ∀ k, row = some k → m ≤ k ∧ ∃ o : Obj, A.heap[k]? = some o ∧ o.isCells = false :=
  fun h k e => by obtain ⟨hk, o, ho, hw⟩ := h k e; exact ⟨by omega, o, ho, Obj.not_cells_of_walk hw⟩
 refine ⟨m + 1, [{ target := .collected m, args := #[] }], W1, { target := .fn (.func gf) lb, args := #[.func (.yield (m + 1)) #[] #[]] }, W1, gf, #[.func (.yield (m + 1)) #[] #[]] ++ lb, W1, ?_, ?_, ?_, ?_, fun _ => h1, ?_⟩
 ·have h := run_enterLoop_outer (P := P) (w := w) fn a.tmps ps assign body
  rw [hm] at h
  rw [h, ← hW1, hR]
 ·simp only [resolve, hg]
  simp [go_sem]
 ·intro f' hf'
  simp [Target.leads] at hf'
  subst hf'; exact hFg
 ·simp [invoke, go_sem, eg]
 refine (hseq (m + 1) (fun pre W => I pre W ∧ TwoBk m (R .ready none) W) (fun pre W => ∃ c, Ix c pre W ∧ TwoBk m (R .done (some c)) W) W1 (hb0.trans (hbw.mono (by rw [← hm]; exact hb0.size)))
  (fun s A B row hs hgr hr => ⟨hI s A B row hs.1 hgr (noCells hr), hs.2.walks hgr hr⟩)
  (fun s A B row hs hgr hr => by obtain ⟨c, hc, ht⟩ := hs; exact ⟨c, hIx' c s A B row hc hgr (noCells hr), ht.walks hgr hr⟩)
  ?_ ⟨?_, hB1⟩).mono ?_
 ·rintro pre x W ⟨hi, ht⟩ hd hlen
  have hy := run_yield (P := P) (args := encs x) ht.lp (by rw [hR]; exact hps x)
  rw [hR] at hy
  refine ⟨fn, _, assign, body, hy, roundIn_of_wpIn hfn (hassign _ pre x W _ hi hd ?_)⟩
  intro a' Wa hka hkpa hia hax
  have hta := ht.kept hka
  obtain ⟨Wb, hWb⟩ : ∃ Wb, Wa.putObj (m + 1) (.loop (R .busy none)) = Wb := ⟨_, rfl⟩
  have hbeg := run_beginRound (P := P) hta.lp (by rw [hR])
  have hbusy : ({ R .ready none with state := .busy } : Loop) = R .busy none := by rw [hR]
  rw [hbusy, hWb] at hbeg
  have htb : TwoBk m (R .busy none) Wb := by rw [← hWb]; exact hta.turn _
  have hib : I pre Wb := by rw [← hWb]; exact hI.putObj _ hia (by omega) hta.lp rfl
  have hab : Ax x a' Wb := by rw [← hWb]; exact (hAx' a').putObj (s := x) _ hax (by omega) hta.lp rfl
  have hkb : Kp W Wb := by rw [← hWb]; exact hKt hkpa (hKb _ _ _ _ (by omega) hta.lp rfl rfl)
  refine ⟨Wb, hbeg, wpIn_mono (hbody _ pre x a' Wb hib hab hlen) ?_⟩
  have fin : ∀ (jump : Option Code) (W3 : World), KeepsFrom m Wb W3 → (Instr.endRound (m + 1) jump).run P W3 = .ok (.bool jump.isNone) (W3.putObj (m + 1) (.loop (R (if jump.isNone then .ready else .done) jump))) ∧ TwoBk m (R .busy none) W3 := fun jump W3 hk => by
   have h3 := htb.kept hk
   have := run_endRound (P := P) jump h3.lp
   rw [hR] at this ⊢
   exact ⟨this, by rw [hR] at h3; exact h3⟩
  have leave : ∀ (c : Code) (W3 : World), KeepsFrom m Wb W3 → Ix c (pre ++ [x]) W3 → ∃ v w', (Instr.endRound (m + 1) (some c)).run P W3 = .ok v w' ∧ ((Ending.returned v = .returned (.bool true) ∧ (I (pre ++ [x]) w' ∧ TwoBk m (R .ready none) w') ∧ Kp W w') ∨ (Ending.returned v = .returned (.bool false) ∧ ∃ c, Ix c (pre ++ [x]) w' ∧ TwoBk m (R .done (some c)) w')) := fun c W3 hk hx => by
   obtain ⟨hr, h3⟩ := fin (some c) W3 hk
   exact ⟨_, _, hr, .inr ⟨rfl, c, (hIx' c).putObj _ hx (by omega) h3.lp rfl, h3.turn _⟩⟩
  intro e a3 W3 hp
  cases e with
  | normal =>
   obtain ⟨hk, hkp, hi3⟩ := hp
   obtain ⟨hr, h3⟩ := fin none W3 hk
   exact ⟨_, _, hr, .inl ⟨rfl, ⟨hI.putObj _ hi3 (by omega) h3.lp rfl, h3.turn _⟩, hKt hkb (hKt hkp (hKb _ _ _ _ (by omega) h3.lp rfl rfl))⟩⟩
  | ret => exact leave _ _ hp.1 hp.2
  | exit id => exact leave _ _ hp.1 hp.2
  | goto t => exact leave _ _ hp.1 hp.2
  | panic ch => exact hp.elim
  | outgrown => exact hp.elim
 ·rw [← hW1]; exact hI.alloc _ (hI.alloc _ h0)
 ·rintro e W2 ⟨⟨v, rfl⟩, (⟨xs, hS, hi, ht⟩ | ⟨pre, hSp, c, hi, ht⟩)⟩
  ·have h := run_endLoop (P := P) ht.lp (by rw [hR]; simp)
   rw [hR] at h
   exact ⟨none, _, h, hdone m xs _ (qN0) hS (hI.putObj _ hi (by omega) ht.lp rfl) ((World.putObj_heap_other (by omega)).trans ht.dfr)⟩
  ·have h := run_endLoop (P := P) ht.lp (by rw [hR]; simp)
   rw [hR] at h
   exact ⟨some c, _, h, hstop m c pre _ (qN0) hSp ((hIx' c).putObj _ hi (by omega) ht.lp rfl) ((World.putObj_heap_other (by omega)).trans ht.dfr)⟩
end Go.Proofs.YtckammgnmgkieaaGreat
namespace Go.Proofs.YtckammgnmgkieaaGreat
set_option maxRecDepth 100000
set_option maxHeartbeats 16000000
open Go.RowKit Go.Shelf
abbrev SegD (n : Nat) := { x : (Nat × Nat) × (Option Addr × Nat) // x.1.1 < x.1.2 ∧ x.1.2 ≤ n }
def rcZ : Rc := ⟨[], 0, ⟨0, [], [], [], []⟩⟩
def dcs (css : List (List Value)) (s e : Nat) : List (List Value) := ((css.drop s).take (e - s)).map fun cs => cs.drop 2
def ttlS (rs : List Rc) (s e : Nat) : Nat := leastM (rs.getD s rcZ).ttl ((rs.drop s).take (e - s))
def setV (vo : Nat → Value) (rs : List Rc) {n : Nat} (x : SegD n) : Array Value :=
 #[.agg #[vo x.1.1.1, .int .i64 (rs.getD x.1.1.1 rcZ).data.ty, .int .u32 (ttlS rs x.1.1.1 x.1.1.2 : Int), .slice x.1.2.1 (x.1.1.2 - x.1.1.1) x.1.2.2]]
def DatO (base : Nat) (css : List (List Value)) {n : Nat} (x : SegD n) (W : World) : Prop := OwnC 5 101 W base (.slice x.1.2.1 (x.1.1.2 - x.1.1.1) x.1.2.2) (dcs css x.1.1.1 x.1.1.2)
theorem qgb {css : List (List Value)} {s e : Nat} (h : e ≤ css.length) : (dcs css s e).length = e - s := by unfold dcs; rw [List.length_map, List.length_take, List.length_drop]; omega
theorem qlR {css : List (List Value)} {s e : Nat} (h1 : s ≤ e) (h2 : e < css.length) : dcs css s (e + 1) = dcs css s e ++ [css[e].drop 2] := by
 unfold dcs
 obtain ⟨j, rfl⟩ : ∃ j, e = s + j := ⟨e - s, by omega⟩
 rw [show s + j + 1 - s = j + 1 by omega, show s + j - s = j by omega, List.take_succ_eq_append_getElem (by rw [List.length_drop]; omega), List.map_append]
 simp
theorem qk1 {rs : List Rc} {s : Nat} : ttlS rs s s = (rs.getD s rcZ).ttl := by unfold ttlS; rw [Nat.sub_self]; rfl
theorem qkW {rs : List Rc} {s e : Nat} (h1 : s ≤ e) (h2 : e < rs.length) : ttlS rs s (e + 1) = minT (ttlS rs s e) rs[e].ttl := by
 unfold ttlS
 obtain ⟨j, rfl⟩ : ∃ j, e = s + j := ⟨e - s, by omega⟩
 rw [show s + j + 1 - s = j + 1 by omega, show s + j - s = j by omega, List.take_succ_eq_append_getElem (by rw [List.length_drop]; omega), qdg]
 simp
theorem qcL {rs : List Rc} {s : Nat} (h : s < rs.length) : rs.getD s rcZ = rs[s] := by simp [List.getD, h]
theorem qhM : ElemK 5 101 36 104 := ⟨Tryz.underlying36, _, _, rfl, rfl, rfl, rfl, rfl⟩
structure SetW (b1 : Nat) (a : Option Addr) (g off n c : Nat) (css : List (List Value)) (rs : List Rc) (vo vn vu vt vr : Nat → Option Addr × Nat × Nat) (Kp : World → World → Prop) (R : World → Prop) : Prop where
 c1 : ∀ W, R W → W.cell? ⟨b1, 0, none⟩ = some (.slice a n c)
 ha : 0 < n → a = some ⟨g, off, none⟩
 el : ∀ W, R W → ∀ k (hlt : k < css.length) (u0 u1 u2 u3 u4 u5 u6 : Value), css[k] = [u0, u1, u2, u3, u4, u5, u6] →
  W.cell? ⟨g, off + k * 7, none⟩ = some u0 ∧ W.cell? ⟨g, off + k * 7 + 1, none⟩ = some u1 ∧ W.cell? ⟨g, off + k * 7 + 2, none⟩ = some u2 ∧ W.cell? ⟨g, off + k * 7 + 3, none⟩ = some u3 ∧ W.cell? ⟨g, off + k * 7 + 4, none⟩ = some u4 ∧ W.cell? ⟨g, off + k * 7 + 5, none⟩ = some u5 ∧ W.cell? ⟨g, off + k * 7 + 6, none⟩ = some u6
 bel : ∀ W, R W → ∀ i j (hi : i < rs.length) (hj : j < css.length) (hj' : j < rs.length) (tt : Int) (a1 : Option Addr) (n1 c1 : Nat), Calls Tryz.prog 111 #[.agg #[.slice (vo i).1 (vo i).2.1 (vo i).2.2, .int .i64 rs[i].data.ty, .int .u32 tt, .slice a1 n1 c1], .agg css[j].toArray] W fun e W' => e = .returned (.bool (belR rs[i] rs[j])) ∧ Below W.heap.size W W'
 below : ∀ W W', R W → Below W.heap.size W W' → R W'
 kp : ∀ W W', R W → Kp W W' → R W'
 cell : ∀ k (hk : k < css.length) (hr : k < rs.length), css[k] = [.slice (vo k).1 (vo k).2.1 (vo k).2.2, .int .u32 (rs[k].ttl : Int), .int .i64 rs[k].data.ty, .slice (vn k).1 (vn k).2.1 (vn k).2.2, .slice (vu k).1 (vu k).2.1 (vu k).2.2, .slice (vt k).1 (vt k).2.1 (vt k).2.2, .slice (vr k).1 (vr k).2.1 (vr k).2.2]
structure SetB (wr : World) (b : Nat) (vo : Value) (ty : Int) (t : Nat) (vd : Value) (ds : List (List Value)) (W : World) : Prop where
 q : W.heap[b]? = some (.cells #[vo, .int .i64 ty, .int .u32 (t : Int), vd] 38)
 own : OwnC 5 101 W wr.heap.size vd ds
 below : Below wr.heap.size wr W
 hb : wr.heap.size ≤ b
theorem SetB.keep {wr W W' : World} {b : Nat} {vo vd : Value} {ty : Int} {t : Nat} {ds : List (List Value)} (h : SetB wr b vo ty t vd ds W) (hb : Below W.heap.size W W') : SetB wr b vo ty t vd ds W' :=
 ⟨(hb.block _ (qaa h.q)).trans h.q, OwnK.below h.own hb, h.below.trans (hb.mono h.below.size), h.hb⟩
theorem SetB.ttl {wr W : World} {b : Nat} {vo vd : Value} {ty : Int} {t : Nat} {ds : List (List Value)} (h : SetB wr b vo ty t vd ds W) (t' : Nat) : SetB wr b vo ty t' vd ds (W.setCell ⟨b, 2, none⟩ (.int .u32 (t' : Int))) :=
 ⟨kset h.q 2 _, OwnK.keptB h.own h.q (by decide) 2 _, h.below.setCell (p := ⟨b, 2, none⟩) h.hb _, h.hb⟩
theorem SetB.push {wr W W' : World} {b : Nat} {vo vd vd' : Value} {ty : Int} {t : Nat} {ds ds' : List (List Value)} (h : SetB wr b vo ty t vd ds W) (hg : W.grownBy W' vd.ownBlock) (ho : OwnC 5 101 W' wr.heap.size vd' ds') : SetB wr b vo ty t vd' ds' (W'.setCell ⟨b, 3, none⟩ vd') := by
 have hq := (hg.block b (qaa h.q) (OwnK.ne_block h.own h.q (by decide))).trans h.q
 exact ⟨kset hq 3 _, OwnK.keptB ho hq (by decide) 3 _, (h.below.grown hg h.below.size (OwnK.base_le h.own)).setCell (p := ⟨b, 3, none⟩) h.hb _, h.hb⟩
section
attribute [local go_sem] Oper.semAt_some
theorem qmt (nf : Nat) (hnf : 3 ≤ nf) (l b1 : Nat) (a : Option Addr) (g off n c : Nat) (hnc : n ≤ c) (hn63 : n ≤ 1048576) (css : List (List Value)) (rs : List Rc) (hcl : css.length = n) (hrl : rs.length = n) (vo vn vu vt vr : Nat → Option Addr × Nat × Nat) (base : Nat) (Kp : World → World → Prop) (R : World → Prop) (H : SetW b1 a g off n c css rs vo vn vu vt vr Kp R)
 (J Jx : List (SegD n) → World → Prop) (hJ : ∀ pre W W', J pre W → Below W.heap.size W W' → J pre W') (hB : ∀ W, R W → base ≤ W.heap.size)
 (hY : ∀ pre x W, J pre W → DatO base css x W → pre.length < n → YieldAt Fence.wide (nf - 1) Tryz.prog l (setV (fun k => .slice (vo k).1 (vo k).2.1 (vo k).2.2) rs x) W fun e W' =>
   (e = .returned (.bool true) ∧ J (pre ++ [x]) W' ∧ Kp W W') ∨ (e = .returned (.bool false) ∧ Jx (pre ++ [x]) W'))
 (W : World) (hR : R W) (h0 : J [] W) :
 CallsIn Fence.wide nf Tryz.prog 110 #[.func (.yield l) #[] #[], .pointer (some ⟨b1, 0, none⟩)] W fun e W' => (∃ v, e = .returned v) ∧
  ((∃ ys : List (SegD n), ys.map (·.1.1) = segsS rs ∧ J ys W') ∨ (∃ pre : List (SegD n), (pre.map (·.1.1) <+: segsS rs) ∧ Jx pre W')) := by
 have hn1' : 1 ≤ nf := by omega
 have HJJ := qH0 hJ
 have HCL := qH0 hcl; have HRL := qH0 hrl; have HBS := qH0 hB
 clear hJ hB
 have HR0 := qH0 hR
 have HJ0 := qH0 h0
 clear hR h0
 refine callsIn_of_wp Tryz.func110 rfl trivial ?_ rfl
 simp only [Tryz.ntmps110, List.size_toArray, List.length_cons, List.length_nil, Nat.reduceAdd, Nat.reduceSub, Array.replicate_succ, Array.replicate_zero, List.push_toArray, List.append_toArray, List.nil_append, List.cons_append]
 gi_wp2
 gi_loopw [3] (fun v3 wr => ∃ (s : Nat) (pre : List (SegD n)), v3 = .int .i64 s ∧ s ≤ n ∧ Hid (pre.map (·.1.1) ++ leftS rs s = segsS rs ∧ pre.length ≤ s) ∧ Hid (J pre wr) ∧ Hid (R wr))
  (fun v3 _ => n - (intOf v3).toNat)
 case atStart => exact ⟨0, [], rfl, Nat.zero_le _, qH0 ⟨rfl, Nat.zero_le _⟩, HJ0, HR0⟩
 case round =>
  obtain ⟨s, pre, rfl, hs, HP, HJ, HR⟩ := hrel
  generalize wr = w0 at *
  have hc0 := H.c1 _ HR.out
  by_cases hlt : s < n
  ·have ha := H.ha (by omega)
   subst ha
   have hltz : (s : Int) < (n : Int) := by omega
   have hsr : s < rs.length := by omega
   have hsc : s < css.length := by omega
   have es := H.cell s hsc hsr
   obtain ⟨e0, e1, e2, e3, e4, e5, e6⟩ := H.el _ HR.out s hsc _ _ _ _ _ _ _ es
   have hc2 : W.cell? ⟨0, 0, none⟩ = W.cell? ⟨0, 0, none⟩ := rfl
   have HT0 : ttlS rs s s = rs[s].ttl := by rw [qk1, qcL hsr]
   have hty : (rs.getD s rcZ).data.ty = rs[s].data.ty := by rw [qcL hsr]
   have HTY := qH0 hty
   clear hc2 hty
   gi_wp2_with fail
   clear e0 e1 e2 e3 e4 e5 e6 hc0
   gi_loopw [6] (fun v6 wq => ∃ (e : Nat) (ad : Option Addr) (cd : Nat), v6 = .int .i64 e ∧ s ≤ e ∧ e ≤ n ∧ Hid (e ≤ nxtS rs s) ∧ Hid (SetB w0 (w0.heap.size + 1) (.slice (vo s).1 (vo s).2.1 (vo s).2.2) rs[s].data.ty (ttlS rs s e) (.slice ad (e - s) cd) (dcs css s e) wq)) (fun v6 _ => n - (intOf v6).toNat)
   case atStart =>
    exact ⟨s, none, 0, rfl, qN0, by omega, qH0 (by have := qcI hsr; omega), qH0 (by
     rw [HT0, Nat.sub_self, show dcs css s s = [] by unfold dcs; rw [Nat.sub_self]; simp]
     refine ⟨?_, OwnK.nil _ _, ((Below.refl _ w0).alloc (qN0) _).alloc (by simp) _, by omega⟩
     have := knew (w0.alloc (.cells #[.slice (vo s).1 (vo s).2.1 (vo s).2.2, .int .u32 (rs[s].ttl : Int), .int .i64 rs[s].data.ty, .slice (vn s).1 (vn s).2.1 (vn s).2.2, .slice (vu s).1 (vu s).2.1 (vu s).2.2, .slice (vt s).1 (vt s).2.1 (vt s).2.2, .slice (vr s).1 (vr s).2.1 (vr s).2.2] 103)) (.cells #[.slice (vo s).1 (vo s).2.1 (vo s).2.2, .int .i64 rs[s].data.ty, .int .u32 (rs[s].ttl : Int), .slice none 0 0] 38)
     rw [World.size_alloc] at this
     exact this)⟩
   case round =>
    obtain ⟨e, ad, cd, rfl, he1, he2, HE, HS⟩ := hrel
    have hC := HS.out.keep (qbo wr)
    obtain ⟨t, ht⟩ : ∃ t, ttlS rs s e = t := ⟨_, rfl⟩
    obtain ⟨ds, hds⟩ : ∃ ds, dcs css s e = ds := ⟨_, rfl⟩
    obtain ⟨k, hk⟩ : ∃ k, e - s = k := ⟨_, rfl⟩
    rw [ht, hds, hk] at hC
    have HSE := qH0 (show SetB w0 (w0.heap.size + 1) (.slice (vo s).1 (vo s).2.1 (vo s).2.2) rs[s].data.ty t (.slice ad k cd) ds wr by rw [← ht, ← hds, ← hk]; exact HS.out)
    have HTE := qH0 ht; have HDE := qH0 hds; have HKE := qH0 hk
    clear ht hds hk HS
    by_cases hen : e < n
    ·have henz : (e : Int) < (n : Int) := by omega
     have her : e < rs.length := by omega
     have hec : e < css.length := by omega
     have ee := H.cell e hec her
     have hRp := fun p : WIn (fun W => SetB w0 (w0.heap.size + 1) (.slice (vo s).1 (vo s).2.1 (vo s).2.2) rs[s].data.ty t (.slice ad k cd) ds W) => H.below _ _ HR.out p.ok.below
     have hne : Nonempty (WIn (fun W => SetB w0 (w0.heap.size + 1) (.slice (vo s).1 (vo s).2.1 (vo s).2.2) rs[s].data.ty t (.slice ad k cd) ds W)) := ⟨⟨_, hC⟩⟩
     have k1 := fun p : WIn (fun W => SetB w0 (w0.heap.size + 1) (.slice (vo s).1 (vo s).2.1 (vo s).2.2) rs[s].data.ty t (.slice ad k cd) ds W) => H.c1 _ (hRp p)
     have f1 := fun p : WIn (fun W => SetB w0 (w0.heap.size + 1) (.slice (vo s).1 (vo s).2.1 (vo s).2.2) rs[s].data.ty t (.slice ad k cd) ds W) => H.el _ (hRp p) e hec _ _ _ _ _ _ _ ee
     have b0 := fun p : WIn (fun W => SetB w0 (w0.heap.size + 1) (.slice (vo s).1 (vo s).2.1 (vo s).2.2) rs[s].data.ty t (.slice ad k cd) ds W) => kcell p.ok.q 0 _ rfl; have b1' := fun p : WIn (fun W => SetB w0 (w0.heap.size + 1) (.slice (vo s).1 (vo s).2.1 (vo s).2.2) rs[s].data.ty t (.slice ad k cd) ds W) => kcell p.ok.q 1 _ rfl; have b2 := fun p : WIn (fun W => SetB w0 (w0.heap.size + 1) (.slice (vo s).1 (vo s).2.1 (vo s).2.2) rs[s].data.ty t (.slice ad k cd) ds W) => kcell p.ok.q 2 _ rfl; have b3 := fun p : WIn (fun W => SetB w0 (w0.heap.size + 1) (.slice (vo s).1 (vo s).2.1 (vo s).2.2) rs[s].data.ty t (.slice ad k cd) ds W) => kcell p.ok.q 3 _ rfl
     have j0 := fun p => (f1 p).1; have j1 := fun p => (f1 p).2.1; have j2 := fun p => (f1 p).2.2.1; have j3 := fun p => (f1 p).2.2.2.1; have j4 := fun p => (f1 p).2.2.2.2.1; have j5 := fun p => (f1 p).2.2.2.2.2.1; have j6 := fun p => (f1 p).2.2.2.2.2.2
     have hcg := fun p : WIn (fun W => SetB w0 (w0.heap.size + 1) (.slice (vo s).1 (vo s).2.1 (vo s).2.2) rs[s].data.ty t (.slice ad k cd) ds W) => Calls.cls (C := fun W => SetB w0 (w0.heap.size + 1) (.slice (vo s).1 (vo s).2.1 (vo s).2.2) rs[s].data.ty t (.slice ad k cd) ds W) ((H.bel _ (hRp p) s e hsr hec her (t : Int) ad k cd).mono fun _ _ ⟨hq, hb⟩ => ⟨hq, p.ok.keep hb⟩)
     rw [ee] at hcg
     obtain ⟨sm, hsm⟩ : ∃ sm, belR rs[s] rs[e] = sm := ⟨_, rfl⟩
     rw [hsm] at hcg
     have HSM := qH0 hsm; have HEE := qH0 ee
     clear f1 hsm ee
     cases sm
     ·gi_wp2_with fail
      refine wpIn_wide.2 ?_
      refine qaf (fun W => SetB w0 (w0.heap.size + 1) (.slice (vo s).1 (vo s).2.1 (vo s).2.2) rs[s].data.ty t (.slice ad k cd) ds W) qae (by kernel_rfl) hC ?_
      repeat (go_big_quiet_step (exact hcg _))
      refine wpQuiet_nil ?_
      rintro _ ⟨p, rfl⟩
      have hse : s ≠ e := fun h => by subst h; have := HSM.out; rw [qcZ] at this; cases this
      have HRp := qH0 (H.below _ _ HR.out p.ok.below)
      have HPOK := qH0 p.ok
      have hnx := qgC (rs := rs) (s := s) (e := e) hsr (by omega) HE.out (Or.inr ⟨her, HSM.out⟩)
      have hx : s < e ∧ e ≤ n := ⟨by omega, by omega⟩
      obtain ⟨fn, tmps, assign, body, hy, hRd⟩ := hY pre ⟨((s, e), (ad, cd)), hx⟩ p.w (HJJ.out _ _ _ HJ.out p.ok.below) (by
       have h := OwnK.weaken p.ok.own (HBS.out _ HR.out)
       show OwnC 5 101 p.w base (.slice ad (e - s) cd) (dcs css s e)
       rw [HDE.out, HKE.out]
       exact h) (by have := HP.out.2; omega)
      unfold setV at hy
      simp only at hy
      rw [HTY.out, HTE.out, HKE.out] at hy
      have y0 := kcell HPOK.out.q 0 _ rfl; have y1 := kcell HPOK.out.q 1 _ rfl; have y2 := kcell HPOK.out.q 2 _ rfl; have y3 := kcell HPOK.out.q 3 _ rfl
      have HRR := qH0 hRd
      have HNX := qH0 hnx
      have HX := qH0 hx
      clear hRd hnx hcg k1 b0 b1' b2 b3 j0 j1 j2 j3 j4 j5 j6 hRp
      gi_wp2
      refine HRR.out.mono ?_
      rintro e' W3 (⟨rfl, hJ3, hk3⟩ | ⟨rfl, hJx3⟩)
      ·have HR3 := qH0 (H.kp _ _ HRp.out hk3)
       have HJ3 := qH0 hJ3
       clear hJ3 hk3 HRR
       gi_wp2
       go_roundw
       case measure => simp [intOf]; omega
       case rel =>
        refine ⟨e, pre ++ [⟨((s, e), (ad, cd)), HX.out⟩], rfl, by omega, qH0 ⟨?_, by have := HP.out.2; simp; omega⟩, HJ3, HR3⟩
        have hp := HP.out.1
        rw [qb1 hsr, ← HNX.out] at hp
        simpa using hp
      ·gi_wp2
       refine bodyPost_ret (results_none rfl _ _ _) rfl ?_
       exact ⟨⟨_, rfl⟩, .inr ⟨_, ⟨leftS rs e, by have hp := HP.out.1; rw [qb1 hsr, ← HNX.out] at hp; simpa using hp⟩, hJx3⟩⟩
     ·gi_wp2_with fail
      refine wpIn_wide.2 ?_
      refine qaf (fun W => SetB w0 (w0.heap.size + 1) (.slice (vo s).1 (vo s).2.1 (vo s).2.2) rs[s].data.ty t (.slice ad k cd) ds W) qae (by kernel_rfl) hC ?_
      repeat (go_big_quiet_step (exact hcg _))
      refine wpQuiet_nil ?_
      rintro _ ⟨p, rfl⟩
      have hS6 := p.ok.keep (qbo p.w)
      have hR6 := H.below _ _ HR.out hS6.below
      have q2 := kcell hS6.q 2 _ rfl
      have f2 := qab hS6.q 2
      have r1 := H.c1 _ hR6
      obtain ⟨-, m1, -⟩ := H.el _ hR6 e hec _ _ _ _ _ _ _ HEE.out
      obtain ⟨te, hte⟩ : ∃ te, rs[e].ttl = te := ⟨_, rfl⟩
      rw [hte] at m1
      obtain ⟨mt, hmt⟩ : ∃ m, minT t te = m := ⟨_, rfl⟩
      have hmz : min (t : Int) (te : Int) = (mt : Int) := by rw [← hmt, qib]; omega
      have HT1 := qH0 (show ttlS rs s (e + 1) = mt by rw [qkW he1 her, HTE.out, hte, hmt])
      have HS6 := qH0 hS6
      clear hmt hte hcg k1 b0 b1' b2 b3 j0 j1 j2 j3 j4 j5 j6 hRp hS6 hR6 hC hne
      have mixed := (qae : Tryz.prog.follows .mixedOrders = true)
      generalize p.w = W6 at *
      gi_wp2_with fail
      refine wpIn_wide.2 ?_
      go_big_region_o
      all_goals
       obtain ⟨xe, hxe⟩ : ∃ x, rs[e].data.ty = x := ⟨_, rfl⟩
       have hS7 : SetB w0 (w0.heap.size + 1) (.slice (vo s).1 (vo s).2.1 (vo s).2.2) rs[s].data.ty mt (.slice ad k cd) ds ((W6.setCell ⟨w0.heap.size + 1, 2, none⟩ (.int .u32 (mt : Int))).drew) := HS6.out.ttl mt
       obtain ⟨W7, hW7⟩ : ∃ W, (W6.setCell ⟨w0.heap.size + 1, 2, none⟩ (.int .u32 (mt : Int))).drew = W := ⟨_, rfl⟩
       rw [hW7] at hS7 ⊢
       clear hW7 q2 f2 r1 m1 HS6
       have hS8 := hS7.keep (qbo W7)
       have hSX : SetB w0 (w0.heap.size + 1) (.slice (vo s).1 (vo s).2.1 (vo s).2.2) rs[s].data.ty mt (.slice ad k cd) ds ((W7.alloc (.cells #[.int .i64 xe, .slice (vn e).1 (vn e).2.1 (vn e).2.2, .slice (vu e).1 (vu e).2.1 (vu e).2.2, .slice (vt e).1 (vt e).2.1 (vt e).2.2, .slice (vr e).1 (vr e).2.1 (vr e).2.2] 101)).drew) := hS8.keep ((Below.refl _ W7.drew).alloc (qN0) _)
       have HSX := qH0 hSX
       have hR8 := H.below _ _ HR.out hS8.below
       have q3 := kcell hS8.q 3 _ rfl
       have q3' := kcell hSX.q 3 _ rfl
       have r1 := H.c1 _ hR8
       have rX := H.c1 _ (H.below _ _ HR.out hSX.below)
       obtain ⟨-, -, m2, m3, m4, m5, m6⟩ := H.el _ hR8 e hec _ _ _ _ _ _ _ HEE.out
       rw [hxe] at m2
       have HXE := qH0 hxe
       clear hxe
       have HDL := qH0 (show ds.length = k by rw [← HDE.out, qgb (by omega), HKE.out])
       have HD5 := qH0 (show ∀ cs ∈ ([[.int .i64 xe, .slice (vn e).1 (vn e).2.1 (vn e).2.2, .slice (vu e).1 (vu e).2.1 (vu e).2.2, .slice (vt e).1 (vt e).2.1 (vt e).2.2, .slice (vr e).1 (vr e).2.1 (vr e).2.2]] : List (List Value)), cs.length = 5 by intro cs hc; rw [List.mem_singleton] at hc; subst hc; rfl)
       have HD1 := qH0 (show ∀ cs ∈ ([[.int .i64 xe, .slice (vn e).1 (vn e).2.1 (vn e).2.2, .slice (vu e).1 (vu e).2.1 (vu e).2.2, .slice (vt e).1 (vt e).2.1 (vt e).2.2, .slice (vr e).1 (vr e).2.1 (vr e).2.2]] : List (List Value)), ∀ u ∈ cs, u.oneCell' = true by
        intro cs hc u hu; rw [List.mem_singleton] at hc; subst hc
        simp only [List.mem_cons, List.not_mem_nil, or_false] at hu
        rcases hu with rfl | rfl | rfl | rfl | rfl <;> rfl)
       have HKN := qH0 (show k ≤ 1048576 by have := HKE.out; omega)
       have H8 := qH0 (fun (ops : Array Oper) (o : Oper) (a : Act) (K : Act → World → Prop) (Q : Exit → Act → World → Prop) (E : Prop) (h1 : o.guard = none) (h2 : o.op = .call { callee := .builtin .append, args := #[.tmp 46, .tmp 52], argTypes := #[36, 36] }) (h3 : a.eval (.tmp 46) = .slice ad k cd) (h4 : a.eval (.tmp 52) = .slice (some ⟨W7.heap.size, 0, none⟩) 1 1) h => qbp (ops := ops) (a := a) (K := K) (Q := Q) (E := E) ((W7.alloc (.cells #[.int .i64 xe, .slice (vn e).1 (vn e).2.1 (vn e).2.2, .slice (vu e).1 (vu e).2.1 (vu e).2.2, .slice (vt e).1 (vt e).2.1 (vt e).2.2, .slice (vr e).1 (vr e).2.1 (vr e).2.2] 101)).drew) h1 (.tmp 46) (.tmp 52) qhM (by decide) h2 w0.heap.size _ ds h3 HSX.out.own _ [[.int .i64 xe, .slice (vn e).1 (vn e).2.1 (vn e).2.2, .slice (vu e).1 (vu e).2.1 (vu e).2.2, .slice (vt e).1 (vt e).2.1 (vt e).2.2, .slice (vr e).1 (vr e).2.1 (vr e).2.2]] h4 (qaH (css := [[.int .i64 xe, .slice (vn e).1 (vn e).2.1 (vn e).2.2, .slice (vu e).1 (vu e).2.1 (vu e).2.2, .slice (vt e).1 (vt e).2.1 (vt e).2.2, .slice (vr e).1 (vr e).2.1 (vr e).2.2]]) (knew W7 _)) HD5.out HD1.out HSX.out.below.size (by have := HKN.out; rw [HDL.out]; unfold maxLen; simp <;> omega) (by have := HKN.out; rw [HDL.out]; simp <;> omega) h)
       clear hS7 hS8 hSX hR8
       gi_wp2_with fail
       refine wpIn_wide.2 ?_
       go_region_law ((with_reducible refine H8.out _ _ _ _ _ _ ?_ ?_ ?_ ?_ ?_); exact rfl; exact rfl; exact rfl; exact rfl; intro v8 w8 ho8 hg8; obtain ⟨a8, z8, e8⟩ := OwnK.shape ho8; rw [List.length_append, HDL.out] at e8; simp only [List.length_cons, List.length_nil, Nat.zero_add] at e8; subst e8; have HS9 := qH0 (HSX.out.push hg8 ho8); have hq8 := (hg8.block _ (qaa HSX.out.q) (OwnK.ne_block HSX.out.own HSX.out.q (by decide))).trans HSX.out.q; have c8 := kcell hq8 3 _ rfl; have f8 := qab hq8 3; clear ho8 hg8 hq8)
       all_goals
        have HNX := qH0 (show e + 1 ≤ nxtS rs s by
         rcases Nat.lt_or_ge s e with h | h
         ·exact qkv hsr h HE.out her HSM.out
         ·obtain rfl : e = s := by omega
          have := qcI hsr; omega)
        have HFI := qH0 (show SetB w0 (w0.heap.size + 1) (.slice (vo s).1 (vo s).2.1 (vo s).2.2) rs[s].data.ty (ttlS rs s (e + 1)) (.slice a8 (e + 1 - s) z8) (dcs css s (e + 1)) (w8.setCell ⟨w0.heap.size + 1, 3, none⟩ (.slice a8 (k + 1) z8)) by
         rw [HT1.out, qlR he1 hec, HDE.out, show e + 1 - s = k + 1 by have := HKE.out; omega]
         have e : css[e].drop 2 = [.int .i64 xe, .slice (vn e).1 (vn e).2.1 (vn e).2.2, .slice (vu e).1 (vu e).2.1 (vu e).2.2, .slice (vt e).1 (vt e).2.1 (vt e).2.2, .slice (vr e).1 (vr e).2.1 (vr e).2.2] := by rw [HEE.out, HXE.out]; rfl
         rw [e]; exact HS9.out)
        clear q3 q3' r1 rX m2 m3 m4 m5 m6 c8 f8 HS9
        gi_wp2
        go_roundw
        case measure => simp [intOf]; omega
        case rel => exact ⟨e + 1, a8, z8, by go_num, by omega, by omega, HNX, HFI⟩
    ·have henz : ¬ (e : Int) < (n : Int) := by omega
     have hRp := fun p : WIn (fun W => SetB w0 (w0.heap.size + 1) (.slice (vo s).1 (vo s).2.1 (vo s).2.2) rs[s].data.ty t (.slice ad k cd) ds W) => H.below _ _ HR.out p.ok.below
     have hne : Nonempty (WIn (fun W => SetB w0 (w0.heap.size + 1) (.slice (vo s).1 (vo s).2.1 (vo s).2.2) rs[s].data.ty t (.slice ad k cd) ds W)) := ⟨⟨_, hC⟩⟩
     have k1 := fun p : WIn (fun W => SetB w0 (w0.heap.size + 1) (.slice (vo s).1 (vo s).2.1 (vo s).2.2) rs[s].data.ty t (.slice ad k cd) ds W) => H.c1 _ (hRp p)
     gi_wp2_with fail
     refine wpIn_wide.2 ?_
     refine qaf (fun W => SetB w0 (w0.heap.size + 1) (.slice (vo s).1 (vo s).2.1 (vo s).2.2) rs[s].data.ty t (.slice ad k cd) ds W) qae (by kernel_rfl) hC ?_
     repeat (go_big_quiet_step (fail))
     refine wpQuiet_nil ?_
     rintro _ ⟨p, rfl⟩
     have HRp := qH0 (H.below _ _ HR.out p.ok.below)
     have HPOK := qH0 p.ok
     have hnx := qgC (rs := rs) (s := s) (e := e) hsr (by omega) HE.out (Or.inl (by omega))
     have hx : s < e ∧ e ≤ n := ⟨by omega, by omega⟩
     obtain ⟨fn, tmps, assign, body, hy, hRd⟩ := hY pre ⟨((s, e), (ad, cd)), hx⟩ p.w (HJJ.out _ _ _ HJ.out p.ok.below) (by
      have h := OwnK.weaken p.ok.own (HBS.out _ HR.out)
      show OwnC 5 101 p.w base (.slice ad (e - s) cd) (dcs css s e)
      rw [HDE.out, HKE.out]
      exact h) (by have := HP.out.2; omega)
     unfold setV at hy
     simp only at hy
     rw [HTY.out, HTE.out, HKE.out] at hy
     have y0 := kcell HPOK.out.q 0 _ rfl; have y1 := kcell HPOK.out.q 1 _ rfl; have y2 := kcell HPOK.out.q 2 _ rfl; have y3 := kcell HPOK.out.q 3 _ rfl
     have HRR := qH0 hRd
     have HNX := qH0 hnx
     have HX := qH0 hx
     clear hRd hnx k1 hRp
     gi_wp2
     refine HRR.out.mono ?_
     rintro e' W3 (⟨rfl, hJ3, hk3⟩ | ⟨rfl, hJx3⟩)
     ·have HR3 := qH0 (H.kp _ _ HRp.out hk3)
      have HJ3 := qH0 hJ3
      clear hJ3 hk3 HRR
      gi_wp2
      go_roundw
      case measure => simp [intOf]; omega
      case rel =>
       refine ⟨e, pre ++ [⟨((s, e), (ad, cd)), HX.out⟩], rfl, by omega, qH0 ⟨?_, by have := HP.out.2; simp; omega⟩, HJ3, HR3⟩
       have hp := HP.out.1
       rw [qb1 hsr, ← HNX.out] at hp
       simpa using hp
     ·gi_wp2
      refine bodyPost_ret (results_none rfl _ _ _) rfl ?_
      exact ⟨⟨_, rfl⟩, .inr ⟨_, ⟨leftS rs e, by have hp := HP.out.1; rw [qb1 hsr, ← HNX.out] at hp; simpa using hp⟩, hJx3⟩⟩
  ·obtain rfl : s = n := by omega
   gi_wp2
   go_end0
   have hp := HP.out.1
   rw [qgE rs (by omega), List.append_nil] at hp
   exact ⟨⟨_, rfl⟩, .inl ⟨pre, hp, HJ.out⟩⟩
end
end Go.Proofs.YtckammgnmgkieaaGreat
