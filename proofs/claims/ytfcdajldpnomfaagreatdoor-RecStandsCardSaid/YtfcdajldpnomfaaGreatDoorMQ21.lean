/-
  Rows in their own order: what they are, and that there is but one.
-/
import Derived.Test.YtfcdajldpnomfaaGreatDoorMQ33
import Derived.Test.YtfcdajldpnomfaaGreatDoorMQ18
import Derived.Test.YtfcdajldpnomfaaGreatDoorMQ32
import Derived.Test.YtfcdajldpnomfaaGreatDoorMQ31
import Derived.Test.YtfcdajldpnomfaaGreatDoorMQ34
namespace Go.Proofs.YtfcdajldpnomfaaGreatDoor
set_option maxRecDepth 20000
open Go.RowKit Go.Shelf
open Stb (COrd)

def StrictR (l : List Rc) : Prop := l.Pairwise fun a b => compareR a b < 0
structure CanOf (l c : List Rc) : Prop where
  up : StrictR c
  has : ∀ x ∈ l, ∃ y ∈ c, compareR y x = 0 ∧ y.ttl ≤ x.ttl
  of : ∀ y ∈ c, ∃ x ∈ l, compareR x y = 0 ∧ x.ttl = y.ttl

theorem cR_anti (x y : Rc) : compareR y x = - compareR x y := cord_compareR.anti x y
theorem cR_trans {x y z : Rc} (h1 : compareR x y ≤ 0) (h2 : compareR y z ≤ 0) : compareR x z ≤ 0 := cord_compareR.trans x y z h1 h2
theorem cR_lt_le {x y z : Rc} (h1 : compareR x y < 0) (h2 : compareR y z ≤ 0) : compareR x z < 0 := by
  have a := cR_anti x z; have b := cR_anti x y
  have t := cord_compareR.trans y z x h2
  have := cord_compareR.trans x y z (by omega) h2
  by_cases c : compareR x z < 0
  · exact c
  · have := t (by omega); omega
theorem cR_le_lt {x y z : Rc} (h1 : compareR x y ≤ 0) (h2 : compareR y z < 0) : compareR x z < 0 := by
  have a := cR_anti x z; have b := cR_anti y z
  have t := cord_compareR.trans z x y
  have := cord_compareR.trans x y z h1 (by omega)
  by_cases c : compareR x z < 0
  · exact c
  · have := t (by omega) h1; omega
theorem cR_eq {x y z : Rc} (h1 : compareR x y = 0) (h2 : compareR y z = 0) : compareR x z = 0 := by
  have a := cR_anti x z; have b := cR_anti y z; have c := cR_anti x y
  have t1 := cord_compareR.trans x y z (by omega) (by omega)
  have t2 := cord_compareR.trans z y x (by omega) (by omega)
  omega
theorem cR_sym {x y : Rc} (h : compareR x y = 0) : compareR y x = 0 := by have := cR_anti x y; omega
theorem minT_le (a b : Nat) : minT a b ≤ a ∧ minT a b ≤ b ∧ (minT a b = a ∨ minT a b = b) := by
  unfold minT; split <;> omega

theorem insR_lt {x : Rc} : ∀ (l : List Rc), StrictR l → ∀ z, compareR z x < 0 → (∀ y ∈ l, compareR z y < 0) → ∀ y ∈ insR l x, compareR z y < 0
  | [], _, z, h, _, y, hy => by simp [insR] at hy; subst hy; exact h
  | a :: r, hs, z, h, h2, y, hy => by
    have p := List.pairwise_cons.1 hs
    simp only [insR] at hy
    split at hy
    · rcases List.mem_cons.1 hy with rfl | hy
      · exact h2 y (by simp)
      · exact insR_lt r p.2 z h (fun y hy => h2 y (by simp [hy])) y hy
    · split at hy
      · rcases List.mem_cons.1 hy with rfl | hy
        · exact h2 a (by simp)
        · exact h2 y (by simp [hy])
      · rcases List.mem_cons.1 hy with rfl | hy
        · exact h
        · exact h2 y hy
theorem insR_strict (x : Rc) : ∀ (l : List Rc), StrictR l → StrictR (insR l x)
  | [], _ => by simp [insR, StrictR]
  | a :: r, hs => by
    have p := List.pairwise_cons.1 hs
    simp only [insR]
    split
    · rename_i c
      exact List.pairwise_cons.2 ⟨insR_lt r p.2 a c p.1, insR_strict x r p.2⟩
    · rename_i c
      split
      · exact List.pairwise_cons.2 ⟨fun y hy => p.1 y hy, p.2⟩
      · rename_i c2
        have hx : compareR x a < 0 := by have := cR_anti x a; omega
        refine List.pairwise_cons.2 ⟨fun y hy => ?_, hs⟩
        rcases List.mem_cons.1 hy with rfl | hy
        · exact hx
        · exact cR_lt_le hx (by have := p.1 y hy; omega)
/-- x itself is in it; what was in it is. -/
theorem insR_has (x : Rc) : ∀ (l : List Rc), (∃ y ∈ insR l x, compareR y x = 0 ∧ y.ttl ≤ x.ttl) ∧ ∀ a ∈ l, ∃ y ∈ insR l x, compareR y a = 0 ∧ y.ttl ≤ a.ttl
  | [] => ⟨⟨x, by simp [insR], compareR_self x, Nat.le_refl _⟩, by simp⟩
  | a :: r => by
    obtain ⟨⟨y, hy, h1⟩, h2⟩ := insR_has x r
    simp only [insR]
    split
    · refine ⟨⟨y, by simp [hy], h1⟩, fun b hb => ?_⟩
      rcases List.mem_cons.1 hb with rfl | hb
      · exact ⟨b, by simp, compareR_self b, Nat.le_refl _⟩
      · obtain ⟨z, hz, h⟩ := h2 b hb
        exact ⟨z, by simp [hz], h⟩
    · have m := minT_le a.ttl x.ttl
      split
      · rename_i c
        refine ⟨⟨_, List.mem_cons_self .., c, m.2.1⟩, fun b hb => ?_⟩
        rcases List.mem_cons.1 hb with rfl | hb
        · exact ⟨_, List.mem_cons_self .., compareR_self b, m.1⟩
        · exact ⟨b, by simp [hb], compareR_self b, Nat.le_refl _⟩
      · exact ⟨⟨x, by simp, compareR_self x, Nat.le_refl _⟩, fun b hb => ⟨b, by simp only [List.mem_cons] at hb ⊢; exact Or.inr hb, compareR_self b, Nat.le_refl _⟩⟩
theorem insR_of (x : Rc) : ∀ (l : List Rc), ∀ y ∈ insR l x, ∃ a, (a = x ∨ a ∈ l) ∧ compareR a y = 0 ∧ a.ttl = y.ttl
  | [], y, hy => by simp [insR] at hy; subst hy; exact ⟨y, .inl rfl, compareR_self y, rfl⟩
  | a :: r, y, hy => by
    simp only [insR] at hy
    split at hy
    · rcases List.mem_cons.1 hy with rfl | hy
      · exact ⟨y, .inr (by simp), compareR_self y, rfl⟩
      · obtain ⟨b, hb, h⟩ := insR_of x r y hy
        exact ⟨b, hb.imp id (fun h => by simp [h]), h⟩
    · split at hy
      · rename_i c
        rcases List.mem_cons.1 hy with rfl | hy
        · rcases (minT_le a.ttl x.ttl).2.2 with e | e
          · exact ⟨a, .inr (by simp), compareR_self a, e.symm⟩
          · exact ⟨x, .inl rfl, cR_sym c, e.symm⟩
        · exact ⟨y, .inr (by simp [hy]), compareR_self y, rfl⟩
      · simp only [List.mem_cons] at hy
        exact ⟨y, hy.imp id (fun h => by simpa using h), compareR_self y, rfl⟩
theorem insR_length (x : Rc) : ∀ (l : List Rc), (insR l x).length ≤ l.length + 1 ∧ l.length ≤ (insR l x).length
  | [] => by simp [insR]
  | a :: r => by
    have := insR_length x r
    simp only [insR]
    repeat' split
    all_goals simp only [List.length_cons]; omega
theorem CanOf.step {l c : List Rc} (h : CanOf l c) (x : Rc) : CanOf (l ++ [x]) (insR c x) := by
  refine ⟨insR_strict x c h.up, fun a ha => ?_, fun y hy => ?_⟩
  · rcases List.mem_append.1 ha with ha | ha
    · obtain ⟨y, hy, h1, h2⟩ := h.has a ha
      obtain ⟨z, hz, g1, g2⟩ := (insR_has x c).2 y hy
      exact ⟨z, hz, cR_eq g1 h1, Nat.le_trans g2 h2⟩
    · simp at ha; subst ha
      exact (insR_has a c).1
  · obtain ⟨a, ha, h1, h2⟩ := insR_of x c y hy
    rcases ha with rfl | ha
    · exact ⟨a, by simp, h1, h2⟩
    · obtain ⟨b, hb, g1, g2⟩ := h.of a ha
      exact ⟨b, by simp [hb], cR_eq g1 h1, by omega⟩
theorem canonM_snoc (l : List Rc) (x : Rc) : canonM (l ++ [x]) = insR (canonM l) x := by simp [canonM, List.foldl_append]
theorem list_snoc_ind {α : Type} {P : List α → Prop} (h0 : P []) (hs : ∀ l x, P l → P (l ++ [x])) (l : List α) : P l := by
  have : ∀ l : List α, P l.reverse := by
    intro l
    induction l with
    | nil => exact h0
    | cons x l ih => rw [List.reverse_cons]; exact hs _ _ ih
  have := this l.reverse
  rwa [List.reverse_reverse] at this
theorem canonM_can (l : List Rc) : CanOf l (canonM l) :=
  list_snoc_ind (P := fun l => CanOf l (canonM l)) ⟨List.Pairwise.nil, by simp, by simp [canonM]⟩ (fun l x h => by rw [canonM_snoc]; exact h.step x) l
theorem canonM_length (l : List Rc) : (canonM l).length ≤ l.length :=
  list_snoc_ind (P := fun l => (canonM l).length ≤ l.length) (by simp [canonM]) (fun l x h => by rw [canonM_snoc]; have := insR_length x (canonM l); simp; omega) l

/-- Whoever stands last is put last. -/
theorem insR_last (x : Rc) : ∀ (l : List Rc), (∀ y ∈ l, compareR y x < 0) → insR l x = l ++ [x]
  | [], _ => rfl
  | a :: r, h => by
    simp only [insR, if_pos (h a (by simp))]
    rw [insR_last x r (fun y hy => h y (by simp [hy]))]
    rfl
theorem canonM_strict (l : List Rc) : StrictR l → canonM l = l :=
  list_snoc_ind (P := fun l => StrictR l → canonM l = l) (fun _ => rfl) (fun l x ih h => by
    have h' := List.pairwise_append.1 h
    rw [canonM_snoc, ih h'.1, insR_last x l (fun y hy => h'.2.2 y hy x (by simp))]) l
theorem canonM_again (l : List Rc) : canonM (canonM l) = canonM l := canonM_strict _ (canonM_can l).up

/-! Rows that are alike. -/
def sameRowM : List Rc → List Rc → Bool
  | [], [] => true
  | a :: l, b :: m => (decide (a.ttl = b.ttl) && sameR a b) && sameRowM l m
  | _, _ => false
theorem sameRowM_refl : ∀ l, sameRowM l l = true
  | [] => rfl
  | a :: l => by simp [sameRowM, sameR, compareR_self, sameRowM_refl l]
def Pair1 (c d : List Rc) : Prop := ∀ y ∈ c, ∃ z ∈ d, compareR z y = 0 ∧ z.ttl = y.ttl
theorem sameRowM_of : ∀ (c d : List Rc), StrictR c → StrictR d → Pair1 c d → Pair1 d c → sameRowM c d = true
  | [], [], _, _, _, _ => rfl
  | [], b :: d, _, _, _, h => by obtain ⟨z, hz, _⟩ := h b (by simp); cases hz
  | a :: c, [], _, _, h, _ => by obtain ⟨z, hz, _⟩ := h a (by simp); cases hz
  | a :: c, b :: d, h1, h2, p1, p2 => by
    have q1 := List.pairwise_cons.1 h1
    have q2 := List.pairwise_cons.1 h2
    have hab : compareR b a = 0 ∧ b.ttl = a.ttl := by
      obtain ⟨z, hz, g1, g2⟩ := p1 a (by simp)
      rcases List.mem_cons.1 hz with rfl | hz
      · exact ⟨g1, g2⟩
      · exfalso
        obtain ⟨w, hw, k1, k2⟩ := p2 b (by simp)
        have hbz := q2.1 z hz
        have hba : compareR b a < 0 := cR_lt_le hbz (by omega)
        rcases List.mem_cons.1 hw with rfl | hw
        · have := cR_anti b w; omega
        · have haw := q1.1 w hw
          have : compareR a b < 0 := cR_lt_le haw (by omega)
          have := cR_anti a b; omega
    have t1 : Pair1 c d := fun y hy => by
      obtain ⟨z, hz, g1, g2⟩ := p1 y (by simp [hy])
      rcases List.mem_cons.1 hz with rfl | hz
      · exfalso
        have := q1.1 y hy
        have h3 : compareR z y < 0 := cR_le_lt (by omega) this
        omega
      · exact ⟨z, hz, g1, g2⟩
    have t2 : Pair1 d c := fun y hy => by
      obtain ⟨z, hz, g1, g2⟩ := p2 y (by simp [hy])
      rcases List.mem_cons.1 hz with rfl | hz
      · exfalso
        have := q2.1 y hy
        have h3 : compareR z y < 0 := cR_le_lt (by have := cR_sym hab.1; omega) this
        omega
      · exact ⟨z, hz, g1, g2⟩
    simp only [sameRowM, Bool.and_eq_true, decide_eq_true_eq]
    exact ⟨⟨hab.2.symm, by simp [sameR, cR_sym hab.1]⟩, sameRowM_of c d q1.2 q2.2 t1 t2⟩
/-- Of each that the one has the other has one that is alike, whose TTL is no more. -/
def Covers (l m : List Rc) : Prop := ∀ x ∈ m, ∃ y ∈ l, compareR y x = 0 ∧ y.ttl ≤ x.ttl
theorem StrictR.one {c : List Rc} : StrictR c → ∀ {y z : Rc}, y ∈ c → z ∈ c → compareR y z = 0 → y = z := by
  intro h
  induction c with
  | nil => intro y z hy; cases hy
  | cons a c ih =>
    intro y z hy hz hc
    have p := List.pairwise_cons.1 h
    rcases List.mem_cons.1 hy with ey | hy'
    · rcases List.mem_cons.1 hz with ez | hz'
      · rw [ey, ez]
      · have := p.1 z hz'; rw [ey] at hc; omega
    · rcases List.mem_cons.1 hz with ez | hz'
      · have := p.1 y hy'; have := cR_anti y z; rw [ez] at hc this; omega
      · exact ih p.2 hy' hz' hc
theorem CanOf.alike {l m c d : List Rc} (h : CanOf l c) (g : CanOf m d) (h1 : Covers l m) (h2 : Covers m l) : sameRowM c d = true := by
  have key : ∀ {l m c d : List Rc}, CanOf l c → CanOf m d → Covers l m → Covers m l → Pair1 c d := by
    intro l m c d h g h1 h2 y hy
    obtain ⟨x, hx, e1, e2⟩ := h.of y hy
    obtain ⟨x', hx', e3, e4⟩ := h2 x hx
    obtain ⟨z, hz, e5, e6⟩ := g.has x' hx'
    have hzy : compareR z y = 0 := cR_eq e5 (cR_eq e3 e1)
    refine ⟨z, hz, hzy, ?_⟩
    obtain ⟨w, hw, f1, f2⟩ := g.of z hz
    obtain ⟨w', hw', f3, f4⟩ := h1 w hw
    obtain ⟨y', hy', f5, f6⟩ := h.has w' hw'
    have : y' = y := h.up.one hy' hy (cR_eq f5 (cR_eq f3 (cR_eq f1 hzy)))
    subst this
    omega
  exact sameRowM_of c d h.up g.up (key h g h1 h2) (key g h h2 h1)
theorem Covers.of_sub {l m : List Rc} (h : ∀ x ∈ m, x ∈ l) : Covers l m := fun x hx => ⟨x, h x hx, compareR_self x, Nat.le_refl _⟩
theorem Covers.app {l l' m m' : List Rc} (h : Covers l m) (g : Covers l' m') : Covers (l ++ l') (m ++ m') := fun x hx => by
  rcases List.mem_append.1 hx with hx | hx
  · obtain ⟨y, hy, h⟩ := h x hx; exact ⟨y, by simp [hy], h⟩
  · obtain ⟨y, hy, h⟩ := g x hx; exact ⟨y, by simp [hy], h⟩
theorem covers_canon (l : List Rc) : Covers (canonM l) l := (canonM_can l).has
theorem canon_covers (l : List Rc) : Covers l (canonM l) := fun y hy => by
  obtain ⟨x, hx, e1, e2⟩ := (canonM_can l).of y hy
  exact ⟨x, hx, e1, by omega⟩
theorem canon_turned (l m : List Rc) (h : ∀ x, x ∈ l ↔ x ∈ m) : sameRowM (canonM l) (canonM m) = true :=
  (canonM_can l).alike (canonM_can m) (.of_sub fun x hx => (h x).2 hx) (.of_sub fun x hx => (h x).1 hx)
theorem canon_merge (a b : List Rc) : sameRowM (canonM (a ++ b)) (canonM (canonM a ++ canonM b)) = true :=
  (canonM_can _).alike (canonM_can _) ((canon_covers a).app (canon_covers b)) ((covers_canon a).app (covers_canon b))
end Go.Proofs.YtfcdajldpnomfaaGreatDoor

/-
  A row cut into runs of records that are the same: plain facts.
-/
namespace Go.Proofs.YtfcdajldpnomfaaGreatDoor
open Go.RowKit Go.Shelf
set_option linter.unusedVariables false

/-- Where the run that begins at s ends. -/
def nxtM (rs : List Rc) (s : Nat) : Nat := match rs.drop s with
  | [] => s + 1
  | y :: r => s + 1 + (r.takeWhile (sameR y)).length
def segsF : Nat → Nat → List Rc → List (Nat × Nat)
  | 0, _, _ => []
  | f + 1, s, rs => if s < rs.length then (s, nxtM rs s) :: segsF f (nxtM rs s) rs else []
def segs (rs : List Rc) : List (Nat × Nat) := segsF rs.length 0 rs
theorem takeWhile_len {p : Rc → Bool} : ∀ (l : List Rc), (l.takeWhile p).length ≤ l.length ∧ (∀ j (hj : j < (l.takeWhile p).length) (h : j < l.length), p l[j] = true) ∧ (∀ h : (l.takeWhile p).length < l.length, p l[(l.takeWhile p).length] = false)
  | [] => ⟨Nat.le_refl _, fun j hj => by simp at hj, fun h => by simp at h⟩
  | x :: r => by
    obtain ⟨h1, h2, h3⟩ := takeWhile_len (p := p) r
    by_cases hx : p x = true
    · have e : (x :: r).takeWhile p = x :: r.takeWhile p := by rw [List.takeWhile_cons, if_pos hx]
      simp only [e, List.length_cons]
      refine ⟨by omega, fun j hj h => ?_, fun h => ?_⟩
      · cases j with
        | zero => exact hx
        | succ j => exact h2 j (by omega) (by omega)
      · exact h3 (by omega)
    · have hx' : p x = false := by simpa using hx
      have e : (x :: r).takeWhile p = [] := by rw [List.takeWhile_cons, if_neg hx]
      simp only [e, List.length_nil, List.length_cons]
      exact ⟨by omega, fun j hj => by omega, fun h => hx'⟩
theorem nxtM_at {rs : List Rc} {s : Nat} (hs : s < rs.length) : nxtM rs s = s + 1 + ((rs.drop (s + 1)).takeWhile (sameR rs[s])).length := by
  unfold nxtM
  rw [List.drop_eq_getElem_cons hs]
theorem nxtM_lt {rs : List Rc} {s : Nat} (hs : s < rs.length) : s < nxtM rs s ∧ nxtM rs s ≤ rs.length := by
  rw [nxtM_at hs]
  have := (takeWhile_len (p := sameR rs[s]) (rs.drop (s + 1))).1
  rw [List.length_drop] at this
  omega
/-- One more that is the same. -/
theorem nxtM_more {rs : List Rc} {s e : Nat} (hs : s < rs.length) (h1 : s + 1 ≤ e) (h2 : e ≤ nxtM rs s) (he : e < rs.length) (hsame : sameR rs[s] rs[e] = true) : e + 1 ≤ nxtM rs s := by
  rw [nxtM_at hs] at h2 ⊢
  obtain ⟨t1, t2, t3⟩ := takeWhile_len (p := sameR rs[s]) (rs.drop (s + 1))
  rcases Nat.lt_or_ge e (s + 1 + ((rs.drop (s + 1)).takeWhile (sameR rs[s])).length) with h | h
  · omega
  · exfalso
    obtain ⟨j, rfl⟩ : ∃ j, e = s + 1 + j := ⟨e - (s + 1), by omega⟩
    have e1 : ((rs.drop (s + 1)).takeWhile (sameR rs[s])).length = j := by omega
    have := t3 (by rw [List.length_drop]; omega)
    simp only [e1, List.getElem_drop] at this
    rw [hsame] at this; cases this
/-- .. and no more. -/
theorem nxtM_stop {rs : List Rc} {s e : Nat} (hs : s < rs.length) (h1 : s + 1 ≤ e) (h2 : e ≤ nxtM rs s) (h : e = rs.length ∨ ∃ he : e < rs.length, sameR rs[s] rs[e] = false) : e = nxtM rs s := by
  have hn := nxtM_lt hs
  rcases h with h | ⟨he, h⟩
  · omega
  · rcases Nat.lt_or_ge e (nxtM rs s) with h3 | h3
    · exfalso
      rw [nxtM_at hs] at h3
      obtain ⟨t1, t2, t3⟩ := takeWhile_len (p := sameR rs[s]) (rs.drop (s + 1))
      obtain ⟨j, rfl⟩ : ∃ j, e = s + 1 + j := ⟨e - (s + 1), by omega⟩
      have := t2 j (by omega) (by rw [List.length_drop]; omega)
      simp only [List.getElem_drop] at this
      rw [h] at this; cases this
    · omega
theorem segsF_more (rs : List Rc) : ∀ (f s : Nat), rs.length - s ≤ f → segsF f s rs = segsF (rs.length - s) s rs
  | 0, s, h => by rw [show rs.length - s = 0 by omega]
  | f + 1, s, h => by
    by_cases hs : s < rs.length
    · have hn := nxtM_lt hs
      obtain ⟨m, hm⟩ : ∃ m, rs.length - s = m + 1 := ⟨rs.length - s - 1, by omega⟩
      rw [hm]
      simp only [segsF, if_pos hs]
      rw [segsF_more rs f (nxtM rs s) (by omega), segsF_more rs m (nxtM rs s) (by omega)]
    · rw [show rs.length - s = 0 by omega]
      simp only [segsF, if_neg hs]
/-- What is left to come from s on. -/
def leftM (rs : List Rc) (s : Nat) : List (Nat × Nat) := segsF (rs.length - s) s rs
theorem leftM_zero (rs : List Rc) : leftM rs 0 = segs rs := rfl
theorem leftM_end (rs : List Rc) {s : Nat} (h : rs.length ≤ s) : leftM rs s = [] := by unfold leftM; rw [show rs.length - s = 0 by omega]; rfl
theorem leftM_step {rs : List Rc} {s : Nat} (hs : s < rs.length) : leftM rs s = (s, nxtM rs s) :: leftM rs (nxtM rs s) := by
  have hn := nxtM_lt hs
  obtain ⟨m, hm⟩ : ∃ m, rs.length - s = m + 1 := ⟨rs.length - s - 1, by omega⟩
  unfold leftM
  rw [hm]
  simp only [segsF, if_pos hs]
  rw [segsF_more rs m (nxtM rs s) (by omega)]
/-- A run's record. -/
def runR (rs : List Rc) (x : Nat × Nat) : Rc := match rs.drop x.1 with
  | [] => Rc.mk [] 0 ⟨0, [], [], [], []⟩
  | y :: r => ⟨y.owner, leastM y.ttl (r.take (x.2 - x.1 - 1)), y.data⟩
theorem takeWhile_take (p : Rc → Bool) : ∀ l : List Rc, l.take (l.takeWhile p).length = l.takeWhile p ∧ l.drop (l.takeWhile p).length = l.dropWhile p
  | [] => ⟨rfl, rfl⟩
  | x :: r => by
    have ih := takeWhile_take p r
    by_cases hx : p x = true
    · simp only [List.takeWhile_cons, List.dropWhile_cons, hx, if_true, List.length_cons, List.take_succ_cons, List.drop_succ_cons, ih.1, ih.2]
      exact ⟨trivial, trivial⟩
    · simp only [List.takeWhile_cons, List.dropWhile_cons, hx, Bool.false_eq_true, if_false, List.length_nil, List.take_zero, List.drop_zero]
      exact ⟨trivial, trivial⟩
theorem leftM_grp (rs : List Rc) : ∀ (n s : Nat), rs.length - s ≤ n → (leftM rs s).map (runR rs) = grp (rs.drop s)
  | n, s, h => by
    by_cases hs : s < rs.length
    · have hn := nxtM_lt hs
      have e1 := nxtM_at hs
      obtain ⟨t1, t2⟩ := takeWhile_take (sameR rs[s]) (rs.drop (s + 1))
      rw [leftM_step hs, List.map_cons, List.drop_eq_getElem_cons hs, grp_cons]
      have ed : (rs.drop (s + 1)).dropWhile (sameR rs[s]) = rs.drop (nxtM rs s) := by rw [← t2, List.drop_drop, e1]
      have er : runR rs (s, nxtM rs s) = ⟨rs[s].owner, leastM rs[s].ttl ((rs.drop (s + 1)).takeWhile (sameR rs[s])), rs[s].data⟩ := by
        unfold runR
        simp only [List.drop_eq_getElem_cons hs]
        rw [← t1, show nxtM rs s - s - 1 = ((rs.drop (s + 1)).takeWhile (sameR rs[s])).length by omega]
      rw [er, ed]
      cases n with
      | zero => omega
      | succ n => rw [leftM_grp rs n (nxtM rs s) (by omega)]
    · rw [leftM_end rs (by omega), List.drop_of_length_le (by omega)]
      rfl
theorem segs_grp (rs : List Rc) : (segs rs).map (runR rs) = grp rs := by rw [← leftM_zero, leftM_grp rs rs.length 0 (by omega)]; rfl
end Go.Proofs.YtfcdajldpnomfaaGreatDoor

/-
  rdata: nameWords, numWords, textWords. (Written by wip/tools/gen6.py.)
-/
namespace Go.Proofs.YtfcdajldpnomfaaGreatDoor
set_option maxRecDepth 20000
open Go.RowKit Go.Shelf

theorem str_name {l : List UInt8} {x : ByteArray} (h : x.data.toList = l) : (⟨l.toArray⟩ : ByteArray) = x := ba_ext (by rw [h])
theorem take_map_snoc {α β : Type} (f : α → β) (l : List α) (k : Nat) (h : k < l.length) : (l.take k).map f ++ [f l[k]] = (l.take (k + 1)).map f := by
  rw [List.take_succ_eq_append_getElem h, List.map_append]; rfl

set_option maxHeartbeats 4000000 in
theorem rdata_nameWords (v : Value) (d : Dat) (w : World) (hA : DatAt w v d) (hk : DatOK d) :
    Calls Tryz.prog 86 #[v] w (StrsRes (d.names.map textN) w) := by
  obtain ⟨vn, vu, vt, vr, rfl, a1, a2, a3, a4⟩ := hA
  obtain ⟨vs, s1, sl, s2⟩ := a1
  obtain ⟨an, cn, rfl, _⟩ := id s1
  have hcell := fun W (hb : Below w.heap.size w W) j (hj : j < vs.length) => s1.cell hb j hj
  have hnm : ∀ W, Below w.heap.size w W → ∀ j (h1 : j < vs.length) (h2 : j < d.names.length), NmAt W vs[j] d.names[j] := fun W hb j h1 _ => (s2 j h1).below hb
  obtain ⟨n, hn⟩ : ∃ n, vs.length = n := ⟨_, rfl⟩
  have HL := Lib.hid (show d.names.length = n by rw [← sl, hn])
  have HV := Lib.hid hn
  have hnb : n ≤ 1048576 := by have := hk.2.1; omega
  have hok := hk.2.2.1
  rw [hn]
  clear hn s1 s2 sl hk
  have hb0 : Below w.heap.size w (w.alloc (.cells #[.int .i64 d.ty, .slice an n cn, vu, vt, vr] 29)) := (Below.refl _ w).alloc (Nat.le_refl _) _
  have f1 := new_at w [.int .i64 d.ty, .slice an n cn, vu, vt, vr] 29 1 _ rfl
  clear a2 a3 a4
  go_enter Tryz.func86, Tryz.ntmps86
  go_wp2_with fail
  clear f1
  go_loopw [3, 9] (fun u i wr => ∃ (k : Nat) (done : Nm), i = .int .i64 k ∧ k ≤ n ∧ OwnG 9 strV wr w.heap.size u done ∧ Below w.heap.size w wr ∧ Hid (done = (d.names.take k).map textN)) (fun _ i _ => n - (intOf i).toNat)
  case atStart => exact ⟨0, [], rfl, Nat.zero_le _, OwnG.nil _ _, hb0, Lib.hid rfl⟩
  case round =>
    obtain ⟨k, done, rfl, hk0, hown, hB, HR⟩ := hrel
    obtain ⟨au, cu, rfl⟩ := hown.shape
    have hdk : done.length = k := by rw [HR.out]; simp [HL.out]; omega
    have HD := Lib.hid hdk; clear hdk
    generalize hdl : done.length = dl at *
    have HDL := Lib.hid hdl; clear hdl
    have hBz := hB.size
    by_cases hlt : k < n
    · have hkd : k < d.names.length := by rw [HL.out]; exact hlt
      have hkv : k < vs.length := by rw [HV.out]; exact hlt
      obtain ⟨g, off, rfl, hg, hc⟩ := hcell wr hB k hkv
      have hT := name_Text vs[k] d.names[k] wr (hnm wr hB k hkv hkd).1 (hok _ (List.getElem_mem hkd))
      have hsn := take_map_snoc textN d.names k hkd
      generalize hy : textN d.names[k] = y at *
      obtain ⟨sx, hy0, _, _⟩ := str_of y
      rw [str_name hy0] at hT
      clear hcell hnm hy hok
      generalize vs[k] = sv at *
      have HC := Lib.hid (show [Value.string sx] = [y].map strV by rw [← hy0]; simp [strV])
      have HR2 := Lib.hid (show done ++ [y] = (d.names.take (k + 1)).map textN by rw [HR.out]; exact hsn)
      clear hsn hy0 HR
      go_wp2_with (first | (go_at_call 38; refine hT.mono ?_; rintro e w2 ⟨rfl, hb2⟩) | (at_builtin; refine wpl_append_g w2 rfl (.tmp 13) (.tmp 16) elemStr rfl strV_one w.heap.size (.slice au dl cu) done rfl (hown.below hb2) [.string sx] [y] HC.out 1 1 rfl rfl (Nat.le_trans hBz hb2.size) (by have := HD.out; have := HDL.out; unfold maxLen; simp; omega) (by have := HD.out; have := HDL.out; simp; omega) ?_; intro v3 w3 hown3 hg3; have hB3 : Below w.heap.size w w3 := (hB.trans (hb2.mono hBz)).grown hg3 (Nat.le_trans hBz hb2.size) hown.base_le))
      go_roundw
      case rel => exact ⟨k + 1, done ++ [y], by go_num, by omega, hown3, hB3, HR2⟩
      case measure => simp [intOf]; omega
    · obtain rfl : k = n := by omega
      have H0 : Hid (done = (d.names.map textN)) := Lib.hid (by rw [HR.out, List.take_of_length_le (by rw [HL.out]; exact Nat.le_refl _)])
      clear HR
      go_wp2_with fail
      go_ret
      refine ⟨_, rfl, ?_, hB⟩
      rw [← H0.out]; exact hown

set_option maxHeartbeats 4000000 in
theorem rdata_textWords (v : Value) (d : Dat) (w : World) (hA : DatAt w v d) (hk : DatOK d) :
    Calls Tryz.prog 88 #[v] w (StrsRes (d.texts.map quotedM) w) := by
  obtain ⟨vn, vu, vt, vr, rfl, a1, a2, a3, a4⟩ := hA
  obtain ⟨an, cn, rfl, _⟩ := id a3.1
  have hcell := fun W (hb : Below w.heap.size w W) j (hj : j < d.texts.length) => a3.1.cell hb j hj
  obtain ⟨n, hn⟩ : ∃ n, d.texts.length = n := ⟨_, rfl⟩
  have HL := Lib.hid hn
  have hok := hk.2.2.2.2.2.1
  have hnb : n ≤ 1048576 := by have := hok.1; omega
  rw [hn]
  clear hn hk
  have hb0 : Below w.heap.size w (w.alloc (.cells #[.int .i64 d.ty, vn, vu, .slice an n cn, vr] 29)) := (Below.refl _ w).alloc (Nat.le_refl _) _
  have f1 := new_at w [.int .i64 d.ty, vn, vu, .slice an n cn, vr] 29 3 _ rfl
  clear a1 a2 a3 a4
  go_enter Tryz.func88, Tryz.ntmps88
  go_wp2_with fail
  clear f1
  go_loopw [3, 9] (fun u i wr => ∃ (k : Nat) (done : Nm), i = .int .i64 k ∧ k ≤ n ∧ OwnG 9 strV wr w.heap.size u done ∧ Below w.heap.size w wr ∧ Hid (done = (d.texts.take k).map quotedM)) (fun _ i _ => n - (intOf i).toNat)
  case atStart => exact ⟨0, [], rfl, Nat.zero_le _, OwnG.nil _ _, hb0, Lib.hid rfl⟩
  case round =>
    obtain ⟨k, done, rfl, hk0, hown, hB, HR⟩ := hrel
    obtain ⟨au, cu, rfl⟩ := hown.shape
    have hdk : done.length = k := by rw [HR.out]; simp [HL.out]; omega
    have HD := Lib.hid hdk; clear hdk
    generalize hdl : done.length = dl at *
    have HDL := Lib.hid hdl; clear hdl
    have hBz := hB.size
    by_cases hlt : k < n
    · have hkd : k < d.texts.length := by rw [HL.out]; exact hlt
      obtain ⟨g, off, rfl, hg, hc⟩ := hcell wr hB k hkd
      obtain ⟨x, hx0, hxz, hxv⟩ := str_of d.texts[k]
      rw [hxv] at hc
      have hxk := hok.2 _ (List.getElem_mem hkd)
      have hT := rdata_quoted x wr (by omega)
      rw [hx0] at hT
      have hsn := take_map_snoc quotedM d.texts k hkd
      generalize hy : quotedM d.texts[k] = y at *
      obtain ⟨sx, hy0, _, _⟩ := str_of y
      rw [str_name hy0] at hT
      clear hcell hy hok hx0 hxz hxv hxk
      have HC := Lib.hid (show [Value.string sx] = [y].map strV by rw [← hy0]; simp [strV])
      have HR2 := Lib.hid (show done ++ [y] = (d.texts.take (k + 1)).map quotedM by rw [HR.out]; exact hsn)
      clear hsn hy0 HR
      go_wp2_with (first | (go_at_call 126; refine hT.mono ?_; rintro e w2 ⟨rfl, hb2⟩) | (at_builtin; refine wpl_append_g w2 rfl (.tmp 13) (.tmp 16) elemStr rfl strV_one w.heap.size (.slice au dl cu) done rfl (hown.below hb2) [.string sx] [y] HC.out 1 1 rfl rfl (Nat.le_trans hBz hb2.size) (by have := HD.out; have := HDL.out; unfold maxLen; simp; omega) (by have := HD.out; have := HDL.out; simp; omega) ?_; intro v3 w3 hown3 hg3; have hB3 : Below w.heap.size w w3 := (hB.trans (hb2.mono hBz)).grown hg3 (Nat.le_trans hBz hb2.size) hown.base_le))
      go_roundw
      case rel => exact ⟨k + 1, done ++ [y], by go_num, by omega, hown3, hB3, HR2⟩
      case measure => simp [intOf]; omega
    · obtain rfl : k = n := by omega
      have H0 : Hid (done = (d.texts.map quotedM)) := Lib.hid (by rw [HR.out, List.take_of_length_le (by rw [HL.out]; exact Nat.le_refl _)])
      clear HR
      go_wp2_with fail
      go_ret
      refine ⟨_, rfl, ?_, hB⟩
      rw [← H0.out]; exact hown

set_option maxHeartbeats 4000000 in
theorem rdata_numWords (v : Value) (d : Dat) (w : World) (hA : DatAt w v d) (hk : DatOK d) (hT0 : Tab w) :
    Calls Tryz.prog 87 #[v] w (StrsRes (d.nums.map Lib.decDigits) w) := by
  obtain ⟨vn, vu, vt, vr, rfl, a1, a2, a3, a4⟩ := hA
  obtain ⟨an, cn, rfl, _⟩ := id a2
  have hcell := fun W (hb : Below w.heap.size w W) j (hj : j < (d.nums.map u32V).length) => a2.cell hb j hj
  obtain ⟨n, hn⟩ : ∃ n, d.nums.length = n := ⟨_, rfl⟩
  have HL := Lib.hid hn
  have hnb : n ≤ 1048576 := by have := hk.2.2.2.1; omega
  have hok := hk.2.2.2.2.1
  rw [List.length_map, hn]
  clear hn hk
  have hb0 : Below w.heap.size w (w.alloc (.cells #[.int .i64 d.ty, vn, .slice an n cn, vt, vr] 29)) := (Below.refl _ w).alloc (Nat.le_refl _) _
  have f1 := new_at w [.int .i64 d.ty, vn, .slice an n cn, vt, vr] 29 2 _ rfl
  clear a1 a2 a3 a4
  go_enter Tryz.func87, Tryz.ntmps87
  go_wp2_with fail
  clear f1
  go_loopw [3, 9] (fun u i wr => ∃ (k : Nat) (done : Nm), i = .int .i64 k ∧ k ≤ n ∧ OwnG 9 strV wr w.heap.size u done ∧ Below w.heap.size w wr ∧ Hid (done = (d.nums.take k).map Lib.decDigits)) (fun _ i _ => n - (intOf i).toNat)
  case atStart => exact ⟨0, [], rfl, Nat.zero_le _, OwnG.nil _ _, hb0, Lib.hid rfl⟩
  case round =>
    obtain ⟨k, done, rfl, hk0, hown, hB, HR⟩ := hrel
    obtain ⟨au, cu, rfl⟩ := hown.shape
    have hdk : done.length = k := by rw [HR.out]; simp [HL.out]; omega
    have HD := Lib.hid hdk; clear hdk
    generalize hdl : done.length = dl at *
    have HDL := Lib.hid hdl; clear hdl
    have hBz := hB.size
    by_cases hlt : k < n
    · have hkd : k < d.nums.length := by rw [HL.out]; exact hlt
      obtain ⟨g, off, rfl, hg, hc⟩ := hcell wr hB k (by rw [List.length_map]; exact hkd)
      rw [List.getElem_map] at hc
      have hxk := hok _ (List.getElem_mem hkd)
      have hT := strconv_FormatUint10 d.nums[k] (by omega) wr (hT0.below hB)
      have hsn := take_map_snoc Lib.decDigits d.nums k hkd
      have hx0 : (0 : Int) ≤ (d.nums[k] : Int) := by omega
      have hx1 : (d.nums[k] : Int) ≤ 4294967295 := by omega
      generalize hy : Lib.decDigits d.nums[k] = y at *
      obtain ⟨sx, hy0, _, _⟩ := str_of y
      rw [str_name hy0] at hT
      unfold u32V at hc
      clear hcell hy hok hxk
      generalize d.nums[k] = x at *
      have HC := Lib.hid (show [Value.string sx] = [y].map strV by rw [← hy0]; simp [strV])
      have HR2 := Lib.hid (show done ++ [y] = (d.nums.take (k + 1)).map Lib.decDigits by rw [HR.out]; exact hsn)
      clear hsn hy0 HR
      go_wp2_with (first | (go_at_call 37; refine hT.mono ?_; rintro e w2 ⟨rfl, hb2⟩) | (at_builtin; refine wpl_append_g w2 rfl (.tmp 13) (.tmp 17) elemStr rfl strV_one w.heap.size (.slice au dl cu) done rfl (hown.below hb2) [.string sx] [y] HC.out 1 1 rfl rfl (Nat.le_trans hBz hb2.size) (by have := HD.out; have := HDL.out; unfold maxLen; simp; omega) (by have := HD.out; have := HDL.out; simp; omega) ?_; intro v3 w3 hown3 hg3; have hB3 : Below w.heap.size w w3 := (hB.trans (hb2.mono hBz)).grown hg3 (Nat.le_trans hBz hb2.size) hown.base_le))
      go_roundw
      case rel => exact ⟨k + 1, done ++ [y], by go_num, by omega, hown3, hB3, HR2⟩
      case measure => simp [intOf]; omega
    · obtain rfl : k = n := by omega
      have H0 : Hid (done = (d.nums.map Lib.decDigits)) := Lib.hid (by rw [HR.out, List.take_of_length_le (by rw [HL.out]; exact Nat.le_refl _)])
      clear HR
      go_wp2_with fail
      go_ret
      refine ⟨_, rfl, ?_, hB⟩
      rw [← H0.out]; exact hown
end Go.Proofs.YtfcdajldpnomfaaGreatDoor

/-
  rdata.readText.
-/
namespace Go.Proofs.YtfcdajldpnomfaaGreatDoor
set_option maxRecDepth 20000
open Go.RowKit Go.Shelf

theorem wpl_append_str {ops : Array Oper} {rest : List Oper} {o : Oper} {a : Act} {Q : Exit → Act → World → Prop} (W : World) (hgd : o.guard = none) (sl x : Operand)
    (ho : o.op = .call { callee := .builtin .append, args := #[sl, x], argTypes := #[27, 9] })
    (base : Nat) (v : Value) (xs : List UInt8) (hs : a.eval sl = v) (hown : OwnG 5 bv W base v xs) (s : ByteArray) (hx : a.eval x = .string s)
    (hbase : base ≤ W.heap.size) (hk : xs.length + s.size ≤ 140737488355328)
    (h : ∀ v' w', OwnG 5 bv w' base v' (xs ++ s.data.toList) → W.grownBy w' v.ownBlock → wpList Tryz.prog ops Q rest (a.put o.dst v') w') : wpList Tryz.prog ops Q (o :: rest) a W := by
  obtain ⟨i0, hi, hz0, hz1, hz2⟩ := info_parts info_u8
  refine wpList_plain hgd fun K hK => ?_
  obtain ⟨v', w', hr, h2, h3, h4⟩ := Lib.run_append_own_string (P := Tryz.prog) (w := W) base 27 9 o.type 5 i0 Tryz.underlying27 Tryz.underlying9 hi hz0 hz1 hz2 v xs.length (xs.map bv) hown s (by unfold maxLen; omega) hk hbase
  unfold Oper.wp
  simp [execOp, ho, resolve, invoke, builtin, hs, hx, hr, Result.andThen]
  refine hK _ _ (h v' w' ?_ h3)
  unfold OwnG
  rw [List.length_append, List.map_append, size_data]
  exact h2

/-- A text and an error. -/
def StrE (q : List UInt8 × Int) (w : World) (e : Ending) (w' : World) : Prop := e = .returned (.tuple #[.string ⟨q.1.toArray⟩, .int .i64 q.2]) ∧ Below w.heap.size w w'
theorem strE_fin {q : List UInt8 × Int} {w w' : World} {e : Ending} (l : List UInt8) (er : Int) (h : q = (l, er)) (he : e = .returned (.tuple #[.string ⟨l.toArray⟩, .int .i64 er])) (hb : Below w.heap.size w w') : StrE q w e w' := by
  subst h; exact ⟨he, hb⟩
theorem readText_err {l : List UInt8} {er : Int} (h : gscan tStep l = ([], er)) (h2 : er ≠ 0) : readTextM l = ([], er) := by unfold readTextM; rw [h, if_neg h2]
theorem gscan_out {k : Nat} {l xs : List UInt8} {er : Int} (HJ : gscan tStep l = join xs (gscan tStep (l.drop k))) (h0 : l.drop k ≠ []) (h1 : (tStep (l.drop k)).2.2 = er) (h2 : er ≠ 0) : gscan tStep l = ([], er) := by
  rw [HJ, gscan_err h0 (by rw [h1]; exact h2), h1]; unfold join; rw [if_neg h2]
theorem gscan_on {k : Nat} {l xs y : List UInt8} {sz : Nat} (HJ : gscan tStep l = join xs (gscan tStep (l.drop k))) (h0 : l.drop k ≠ []) (h1 : tStep (l.drop k) = (y, sz, 0)) : gscan tStep l = join (xs ++ y) (gscan tStep (l.drop (k + sz))) := by
  rw [HJ, gscan_ok tStep_ok h0 (by rw [h1]), h1, join_join, List.drop_drop]
theorem tStep_plain {s : ByteArray} {k : Nat} (hk : k < s.size) (h : ((s[k].toNat : Int) != 92) = true) : tStep (s.data.toList.drop k) = ([s[k]], 1, 0) := by
  rw [drop_cons_get s k hk]
  unfold tStep
  have : s[k] ≠ 92 := by
    intro e; rw [e] at h; revert h; decide
  simp only
  rw [if_pos this]
theorem tStep_stroke {s : ByteArray} {k sz : Nat} (hk : k < s.size) (h : ((s[k].toNat : Int) != 92) = false) (hz : tSize (s.data.toList.drop k) = sz) : tStep (s.data.toList.drop k) = ((parseM ((s.data.toList.drop k).take sz)).1, sz, (parseM ((s.data.toList.drop k).take sz)).2) := by
  subst hz
  rw [drop_cons_get s k hk]
  have e : s[k] = 92 := u8_92 h
  have e2 : ∀ (x : UInt8) r, tStep (x :: r) = if x ≠ 92 then ([x], 1, 0) else ((parseM ((x :: r).take (tSize (x :: r)))).1, tSize (x :: r), (parseM ((x :: r).take (tSize (x :: r)))).2) := fun _ _ => rfl
  rw [e2, if_neg (by rw [e]; simp)]
theorem tSize_one {s : ByteArray} {k : Nat} (hk : k < s.size) (h : s.size ≤ k + 1) : tSize (s.data.toList.drop k) = 1 := by
  rw [drop_cons_get s k hk, List.drop_of_length_le (by rw [size_data]; exact h)]; rfl
theorem tSize_two {s : ByteArray} {k : Nat} (hk : k + 1 < s.size) (h : digitU s[k + 1] = false) : tSize (s.data.toList.drop k) = 2 := by
  rw [drop_cons_get s k (by omega), drop_cons_get s (k + 1) hk]
  unfold tSize
  simp only [h, List.length_cons]
  simp <;> omega
theorem tSize_four {s : ByteArray} {k : Nat} (hk : k + 1 < s.size) (h : digitU s[k + 1] = true) : tSize (s.data.toList.drop k) = min 4 (s.size - k) := by
  have hl : (s.data.toList.drop k).length = s.size - k := by rw [List.length_drop, size_data]
  rw [← hl, drop_cons_get s k (by omega), drop_cons_get s (k + 1) hk]
  unfold tSize
  simp only [h, if_true]
theorem parseM_le (l : List UInt8) : (parseM l).1.length ≤ l.length := parseM_len l

end Go.Proofs.YtfcdajldpnomfaaGreatDoor

/-
  Data behind a pointer: rdata.readWord.
-/
namespace Go.Proofs.YtfcdajldpnomfaaGreatDoor
set_option maxRecDepth 20000
open Go.RowKit Go.Shelf
set_option maxRecDepth 20000

abbrev SlV := Option Addr × Nat × Nat
def slEnc (x : SlV) : Value := .slice x.1 x.2.1 x.2.2
theorem slEnc_one (x : SlV) : (slEnc x).oneCell' = true := rfl
theorem elemNames : ElemT 23 25 24 := ⟨Tryz.underlying25, _, _, rfl, rfl, rfl, rfl, rfl⟩
theorem OwnG.apart {α β : Type} {T T' : TypeId} {enc : α → Value} {enc' : β → Value} {W : World} {base base' : Nat} {v v' : Value} {xs : List α} {ys : List β} (h : OwnG T enc W base v xs) (h' : OwnG T' enc' W base' v' ys) (hT : T ≠ T') : v.ownBlock = none ∨ v.ownBlock ≠ v'.ownBlock := by
  rcases h.2 with ⟨rfl, _⟩ | ⟨g, cap, cur, rfl, _, hg, _⟩
  · left; rfl
  · right
    intro e
    exact h'.ne_block hg hT e
theorem OwnG.kept2 {α β : Type} {T T' : TypeId} {enc : α → Value} {enc' : β → Value} {W W' : World} {base base' : Nat} {v v' : Value} {xs : List α} {ys : List β} (h : OwnG T enc W base v xs) (h' : OwnG T' enc' W base' v' ys) (hT : T ≠ T') (hg : W.grownBy W' v'.ownBlock) : OwnG T enc W' base v xs :=
  h.kept hg (h.apart h' hT)
theorem block_set {W : World} {B : Nat} {cs : Array Value} {t : TypeId} (h : W.heap[B]? = some (.cells cs t)) (j : Nat) (v : Value) : (W.setCell ⟨B, j, none⟩ v).heap[B]? = some (.cells (cs.setIfInBounds j v) t) := by
  obtain ⟨hlt, hk⟩ := Array.getElem?_eq_some_iff.1 h
  show (W.heap.modify B _)[B]? = _
  rw [Array.getElem?_eq_getElem (by rw [Array.size_modify]; exact hlt), Array.getElem_modify_self, hk]
  rfl
theorem grownBy_set (W : World) (b j : Nat) (v : Value) : W.grownBy (W.setCell ⟨b, j, none⟩ v) (some b) :=
  ⟨rfl, rfl, rfl, (KeepsWalks.setCell W _ v).size, fun k _ hk => Below.heap_setCell _ _ _ k (fun e => hk (by rw [e]))⟩
theorem OwnG.keptB {α : Type} {T : TypeId} {enc : α → Value} {W : World} {base : Nat} {v : Value} {xs : List α} (h : OwnG T enc W base v xs) {B : Nat} {cs : Array Value} {t : TypeId} (hB : W.heap[B]? = some (.cells cs t)) (ht : t ≠ T) (j : Nat) (u : Value) : OwnG T enc (W.setCell ⟨B, j, none⟩ u) base v xs :=
  h.kept (grownBy_set W B j u) (.inr (fun e => h.ne_block hB ht e.symm))
theorem frozen_block {W : World} {B : Nat} {cs : Array Value} {t : TypeId} (h : W.heap[B]? = some (.cells cs t)) (j : Nat) : W.frozen? ⟨B, j, none⟩ = false := by simp [World.frozen?, h]
theorem block_lt {W : World} {B : Nat} {o : Obj} (h : W.heap[B]? = some o) : B < W.heap.size := (Array.getElem?_eq_some_iff.1 h).1

/-- A row of names of the call's own, each name a row of its own. -/
def OwnNms (W : World) (base : Nat) (v : Value) (ns : List Nm) : Prop := ∃ vs : List SlV, OwnG 23 slEnc W base v vs ∧ vs.length = ns.length ∧ ∀ j (h1 : j < vs.length) (h2 : j < ns.length), OwnG 9 strV W base (slEnc vs[j]) ns[j]
theorem OwnNms.below {W W' : World} {base : Nat} {v : Value} {ns : List Nm} (h : OwnNms W base v ns) (hb : Below W.heap.size W W') : OwnNms W' base v ns := by
  obtain ⟨vs, h1, h2, h3⟩ := h
  exact ⟨vs, h1.below hb, h2, fun j a b => (h3 j a b).below hb⟩
theorem OwnNms.nms {W : World} {base : Nat} {v : Value} {ns : List Nm} (h : OwnNms W base v ns) : NmsAt W v ns := by
  obtain ⟨vs, h1, h2, h3⟩ := h
  refine ⟨vs.map slEnc, SlAt.of_own h1, by rw [List.length_map]; exact h2, fun j hj => ?_⟩
  rw [List.getElem_map]
  exact (h3 j (by simpa using hj) (by rw [List.length_map] at hj; omega)).nmAt
theorem OwnNms.nil (W : World) (base : Nat) : OwnNms W base (.slice none 0 0) [] := ⟨[], OwnG.nil _ _, rfl, fun j h => by simp at h⟩
def DRow (W : World) (base : Nat) (vn vu vt vr : Value) (d : Dat) : Prop := OwnNms W base vn d.names ∧ OwnG 24 u32V W base vu d.nums ∧ OwnG 9 strV W base vt d.texts ∧ OwnG 5 bv W base vr d.raw
def DBox (W : World) (B base : Nat) (d : Dat) : Prop := ∃ vn vu vt vr, W.heap[B]? = some (.cells #[.int .i64 d.ty, vn, vu, vt, vr] 29) ∧ DRow W base vn vu vt vr d
theorem DRow.below {W W' : World} {base : Nat} {vn vu vt vr : Value} {d : Dat} (h : DRow W base vn vu vt vr d) (hb : Below W.heap.size W W') : DRow W' base vn vu vt vr d :=
  ⟨h.1.below hb, h.2.1.below hb, h.2.2.1.below hb, h.2.2.2.below hb⟩
theorem DRow.datAt {W : World} {base : Nat} {vn vu vt vr : Value} {d : Dat} (h : DRow W base vn vu vt vr d) : DatAt W (.agg #[.int .i64 d.ty, vn, vu, vt, vr]) d :=
  ⟨vn, vu, vt, vr, rfl, h.1.nms, SlAt.of_own h.2.1, h.2.2.1.nmAt, SlAt.of_own h.2.2.2⟩
theorem DBox.below {W W' : World} {B base : Nat} {d : Dat} (h : DBox W B base d) (hb : Below W.heap.size W W') : DBox W' B base d := by
  obtain ⟨vn, vu, vt, vr, h1, h2⟩ := h
  exact ⟨vn, vu, vt, vr, (hb.block B (block_lt h1)).trans h1, h2.below hb⟩
/-- Behind a store into a field. -/
theorem OwnNms.keptB {W : World} {base : Nat} {v : Value} {ns : List Nm} (h : OwnNms W base v ns) {B : Nat} {cs : Array Value} (hB : W.heap[B]? = some (.cells cs 29)) (j : Nat) (u : Value) : OwnNms (W.setCell ⟨B, j, none⟩ u) base v ns := by
  obtain ⟨vs, h1, h2, h3⟩ := h
  exact ⟨vs, h1.keptB hB (by decide) j u, h2, fun i a b => (h3 i a b).keptB hB (by decide) j u⟩
theorem OwnNms.kept2 {β : Type} {T' : TypeId} {enc' : β → Value} {W W' : World} {base base' : Nat} {v v' : Value} {ns : List Nm} {ys : List β} (h : OwnNms W base v ns) (h' : OwnG T' enc' W base' v' ys) (hT : 23 ≠ T') (hS : 9 ≠ T') (hg : W.grownBy W' v'.ownBlock) : OwnNms W' base v ns := by
  obtain ⟨vs, h1, h2, h3⟩ := h
  exact ⟨vs, h1.kept2 h' hT hg, h2, fun i a b => (h3 i a b).kept2 h' hS hg⟩
theorem DRow.set {W : World} {B base : Nat} {cs : Array Value} {vn vu vt vr : Value} {d : Dat} (h : DRow W base vn vu vt vr d) (hB : W.heap[B]? = some (.cells cs 29)) (j : Nat) (u : Value) : DRow (W.setCell ⟨B, j, none⟩ u) base vn vu vt vr d :=
  ⟨h.1.keptB hB j u, h.2.1.keptB hB (by decide) j u, h.2.2.1.keptB hB (by decide) j u, h.2.2.2.keptB hB (by decide) j u⟩

theorem add_110 (d : Dat) (s : List UInt8) (o : Nm) : addD d 110 s o = { d with names := d.names ++ [(parseN s o).1] } := rfl
theorem add_117 (d : Dat) (s : List UInt8) (o : Nm) : addD d 117 s o = { d with nums := d.nums ++ [(numM s 4294967295).1] } := rfl
theorem add_112 (d : Dat) (s : List UInt8) (o : Nm) : addD d 112 s o = { d with nums := d.nums ++ [(numM s 65535).1] } := rfl
theorem add_116 (d : Dat) (s : List UInt8) (o : Nm) : addD d 116 s o = { d with texts := d.texts ++ [(readTextM s).1] } := rfl
theorem add_52 (d : Dat) (s : List UInt8) (o : Nm) : addD d 52 s o = { d with raw := (addressM s).1 } := rfl
theorem add_54 (d : Dat) (s : List UInt8) (o : Nm) : addD d 54 s o = { d with raw := (groupsM s).1 } := rfl
/-- Other boxes of data lie as they lay. -/
def KeepW (B : Nat) (w w' : World) : Prop := ∀ (b : Nat) (cs : Array Value), b ≠ B → w.heap[b]? = some (Obj.cells cs 29) → w'.heap[b]? = some (Obj.cells cs 29)
theorem KeepW.refl (B : Nat) (w : World) : KeepW B w w := by intro x cs _ e; exact e
theorem KeepW.trans {B : Nat} {a b c : World} (h : KeepW B a b) (k : KeepW B b c) : KeepW B a c := by intro x cs n e; exact k x cs n (h x cs n e)
theorem KeepW.below {B : Nat} {w w' : World} (h : Below w.heap.size w w') : KeepW B w w' := by intro b cs _ e; exact (h.block b (block_lt e)).trans e
theorem KeepW.grown {B : Nat} {α : Type} {T : TypeId} {enc : α → Value} {w w' : World} {base : Nat} {v : Value} {xs : List α} (h : OwnG T enc w base v xs) (hT : 29 ≠ T) (hg : w.grownBy w' v.ownBlock) : KeepW B w w' := by
  intro b cs _ e; exact (hg.block b (block_lt e) (h.ne_block e hT)).trans e
theorem KeepW.set {w : World} {B : Nat} (j : Nat) (u : Value) : KeepW B w (w.setCell ⟨B, j, none⟩ u) := by
  intro b cs2 hb e
  exact ((grownBy_set w B j u).block b (block_lt e) (fun h => hb (by simpa using h))).trans e
/-- What readWord answers. -/
def WordPost (B base : Nat) (d : Dat) (er : Int) (w : World) (e : Ending) (w' : World) : Prop := e = .returned (.int .i64 er) ∧ DBox w' B base d ∧ Below base w w' ∧ KeepW B w w'

/-! ### the other kinds -/

end Go.Proofs.YtfcdajldpnomfaaGreatDoor

/-
  strings.Join over rows of texts; rdata.dotted.
-/
namespace Go.Proofs.YtfcdajldpnomfaaGreatDoor
set_option maxRecDepth 20000
open Go.RowKit Go.Shelf
set_option maxRecDepth 20000

theorem sepBy_cons (sep x : List UInt8) (r : Nm) (h : r ≠ []) : sepBy sep (x :: r) = x ++ sep ++ sepBy sep r := by
  cases r with
  | nil => exact absurd rfl h
  | cons y t => rfl
theorem sepBy_join (sep : List UInt8) : ∀ xs : Nm, Lib.join xs sep = sepBy sep xs
  | [] => rfl
  | [x] => by rw [Lib.join_one]; rfl
  | x :: y :: r => by
    have ih := sepBy_join sep (y :: r)
    have e : Lib.join (x :: y :: r) sep = x ++ sep ++ Lib.join (y :: r) sep := by
      unfold Lib.join
      simp [List.intercalate, List.intersperse]
    rw [e, ih]; rfl
theorem sepBy_len (sep : List UInt8) (B : Nat) : ∀ xs : Nm, (∀ x ∈ xs, x.length ≤ B) → (sepBy sep xs).length ≤ xs.length * (B + sep.length)
  | [], _ => by simp [sepBy]
  | [x], h => by have := h x (by simp); simp [sepBy]; omega
  | x :: y :: r, h => by
    have h1 := h x (by simp)
    have h2 := sepBy_len sep B (y :: r) (fun z hz => h z (by simp [hz]))
    have e : (sepBy sep (x :: y :: r)).length = x.length + sep.length + (sepBy sep (y :: r)).length := by simp [sepBy]; omega
    rw [e]
    have e2 : (x :: y :: r).length * (B + sep.length) = (B + sep.length) + (y :: r).length * (B + sep.length) := by
      rw [List.length_cons, Nat.add_mul]; omega
    omega
theorem join_nm (v : Value) (xs : Nm) (sep : ByteArray) (w : World) (hA : NmAt w v xs) (hN : xs.length ≤ 1048576) (hlen : (sepBy sep.data.toList xs).length ≤ 140737488355328) :
    Calls Tryz.prog 85 #[v, .string sep] w fun e w' => e = .returned (.string ⟨(sepBy sep.data.toList xs).toArray⟩) ∧ Below w.heap.size w w' := by
  obtain ⟨⟨a, c, rfl, hx⟩, ⟨a', n', c', e, hc, _⟩⟩ := hA
  cases e
  rcases hx with rfl | ⟨b, off, rfl, hb, hcell⟩
  · refine (Tryz.strings_Join_none a c sep w).mono ?_
    rintro e w' ⟨rfl, rfl⟩
    exact ⟨rfl, Below.refl _ _⟩
  · have hm : (xs.map fun l => (⟨l.toArray⟩ : ByteArray)).map (·.data.toList) = xs := by rw [List.map_map]; simp [Function.comp_def]
    have h := Tryz.strings_Join b off c (xs.map fun l => (⟨l.toArray⟩ : ByteArray)) sep w (fun j x hx => by
        rw [List.getElem?_map] at hx
        cases hj : xs[j]? with
        | none => rw [hj] at hx; simp at hx
        | some l =>
          rw [hj] at hx
          have hx : (⟨l.toArray⟩ : ByteArray) = x := by simpa using hx
          obtain ⟨hjl, hjv⟩ := List.getElem?_eq_some_iff.1 hj
          rw [hcell j hjl, hjv, ← hx]; rfl) hb (by rw [List.length_map]; omega) (by rw [List.length_map]; exact hc) (by rw [hm, sepBy_join]; exact hlen)
    rw [List.length_map, hm, sepBy_join] at h
    exact h

set_option maxHeartbeats 4000000 in
theorem rdata_dotted (v : Value) (raw : List UInt8) (w : World) (hA : SlAt w v (raw.map bv)) (hk : raw.length ≤ 1048576) (hT0 : Tab w) :
    Calls Tryz.prog 83 #[v] w fun e w' => e = .returned (.string ⟨(sepBy [46] (raw.map fun c => Lib.decDigits c.toNat)).toArray⟩) ∧ Below w.heap.size w w' := by
  obtain ⟨an, cn, rfl, _⟩ := id hA
  have hcell := fun W (hb : Below w.heap.size w W) j (hj : j < (raw.map bv).length) => hA.cell hb j hj
  obtain ⟨n, hn⟩ : ∃ n, raw.length = n := ⟨_, rfl⟩
  have HL := Lib.hid hn
  have hnb : n ≤ 1048576 := by omega
  rw [List.length_map, hn]
  clear hn hk hA
  go_enter Tryz.func83, Tryz.ntmps83
  go_wp2_with fail
  go_loopw [3, 8] (fun u i wr => ∃ (k : Nat) (done : Nm), i = .int .i64 k ∧ k ≤ n ∧ OwnG 9 strV wr w.heap.size u done ∧ Below w.heap.size w wr ∧ Hid (done = (raw.take k).map fun c => Lib.decDigits c.toNat)) (fun _ i _ => n - (intOf i).toNat)
  case atStart => exact ⟨0, [], rfl, Nat.zero_le _, OwnG.nil _ _, Below.refl _ _, Lib.hid rfl⟩
  case round =>
    obtain ⟨k, done, rfl, hk0, hown, hB, HR⟩ := hrel
    obtain ⟨au, cu, rfl⟩ := hown.shape
    have hdk : done.length = k := by rw [HR.out]; simp [HL.out]; omega
    have HD := Lib.hid hdk; clear hdk
    generalize hdl : done.length = dl at *
    have HDL := Lib.hid hdl; clear hdl
    have hBz := hB.size
    by_cases hlt : k < n
    · have hkd : k < raw.length := by rw [HL.out]; exact hlt
      obtain ⟨g, off, rfl, hg, hc⟩ := hcell wr hB k (by rw [List.length_map]; exact hkd)
      rw [List.getElem_map] at hc
      have hcc : (raw[k].toNat : Int) ≤ 255 := by have := raw[k].toNat_lt; omega
      have hc0 : (0 : Int) ≤ (raw[k].toNat : Int) := by omega
      have hT := strconv_Itoa (raw[k].toNat : Int) (by omega) (by omega) wr (hT0.below hB)
      rw [Lib.itoa_nonneg] at hT
      have hsn := take_map_snoc (fun c : UInt8 => Lib.decDigits c.toNat) raw k hkd
      have hy' : ∃ y, Lib.decDigits raw[k].toNat = y := ⟨_, rfl⟩
      obtain ⟨y, hy⟩ := hy'
      simp only [hy] at hsn
      rw [hy] at hT
      obtain ⟨sx, hy0, _, _⟩ := str_of y
      rw [str_name hy0] at hT
      unfold bv at hc
      clear hcell hy
      generalize raw[k] = x at *
      have HC := Lib.hid (show [Value.string sx] = [y].map strV by rw [← hy0]; simp [strV])
      have HR2 := Lib.hid (show done ++ [y] = (raw.take (k + 1)).map fun c => Lib.decDigits c.toNat by rw [HR.out]; exact hsn)
      clear hsn hy0 HR
      go_wp2_with (first | (go_at_call 82; refine hT.mono ?_; rintro e w2 ⟨rfl, hb2⟩) | (at_builtin; refine wpl_append_g w2 rfl (.tmp 12) (.tmp 16) elemStr rfl strV_one w.heap.size (.slice au dl cu) done rfl (hown.below hb2) [.string sx] [y] HC.out 1 1 rfl rfl (Nat.le_trans hBz hb2.size) (by have := HD.out; have := HDL.out; unfold maxLen; simp; omega) (by have := HD.out; have := HDL.out; simp; omega) ?_; intro v3 w3 hown3 hg3; have hB3 : Below w.heap.size w w3 := (hB.trans (hb2.mono hBz)).grown hg3 (Nat.le_trans hBz hb2.size) hown.base_le))
      go_roundw
      case rel => exact ⟨k + 1, done ++ [y], by go_num, by omega, hown3, hB3, HR2⟩
      case measure => simp [intOf]; omega
    · obtain rfl : k = n := by omega
      have H0 : Hid (done = raw.map fun c => Lib.decDigits c.toNat) := Lib.hid (by rw [HR.out, List.take_of_length_le (by rw [HL.out]; exact Nat.le_refl _)])
      have hJ := join_nm (.slice au dl cu) done ⟨#[46]⟩ wr hown.nmAt (by have := HD.out; have := HDL.out; omega) (by
        have := sepBy_len [46] 20 done (fun x hx => by
          rw [H0.out] at hx
          obtain ⟨c, _, rfl⟩ := List.mem_map.1 hx
          have h1 := dec_len c.toNat (by have := c.toNat_lt; omega)
          omega)
        have e : (⟨#[46]⟩ : ByteArray).data.toList = [46] := rfl
        rw [e]
        have h1 := HD.out; have h2 := HDL.out
        simp only [List.length_singleton] at this
        omega)
      clear HR hcell
      go_wp2_with (go_at_call 85; refine hJ.mono ?_; rintro e w2 ⟨rfl, hb2⟩)
      go_ret
      exact ⟨by rw [H0.out]; rfl, hB.trans (hb2.mono hBz)⟩
end Go.Proofs.YtfcdajldpnomfaaGreatDoor

