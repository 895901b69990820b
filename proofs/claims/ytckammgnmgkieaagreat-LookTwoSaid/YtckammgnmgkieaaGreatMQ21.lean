/-
  The zone's answers (look), plainly.
-/
import Derived.Test.YtckammgnmgkieaaGreatMQ30
import Derived.Test.YtckammgnmgkieaaGreatMQ16
import Derived.Test.YtckammgnmgkieaaGreatMQ19
import Derived.Test.YtckammgnmgkieaaGreatMQ35
import Derived.Test.YtckammgnmgkieaaGreatMQ36
import Derived.Test.YtckammgnmgkieaaGreatMQ28
import Derived.Test.YtckammgnmgkieaaGreatMQ10
import Derived.Test.YtckammgnmgkieaaGreatMQ41
import Derived.IntWalk
import Derived.Deep.CutBlock
import Derived.Deep.DeepCutAuto
import Derived.Deep.RegionLaw
import Derived.Test.YtckammgnmgkieaaGreatMQ20
namespace Go.Proofs.YtckammgnmgkieaaGreat
set_option maxRecDepth 20000
open Go.RowKit
set_option linter.unusedVariables false
set_option linter.unusedSimpArgs false
structure Lk where
  kind : Int
  data : List Dat
  name : Nm
  wild : Bool
  glue : List (Nm × List Dat)
def toldM : List Nm → List (List UInt8) → List Nm
  | [], _ => []
  | h :: r, seen => if textN h ∈ seen then toldM r seen else h :: toldM r (textN h :: seen)
def firstN (s : St) : Nm := ((s.data.head?.map (·.names)).getD []).headD []
def pointD (s : St) : Bool := match s.data with | [] => false | d :: _ => !d.names.isEmpty
def referM (rs : List Rc) (n : Nm) (ns : St) : Lk := ⟨4, ns.data, n, false, (toldM (targetsM ns.ty ns.data) []).filterMap fun h => if glueM rs h = [] then none else some (h, glueM rs h)⟩
def renameM (q n : Nm) (d : St) : Lk := if (swapN q n (firstN d)).2 = 0 then ⟨5, d.data.take 1, (swapN q n (firstN d)).1, false, []⟩ else ⟨6, [], [], false, []⟩
def atM (l : List Rc) (n : Nm) (t : Int) : Lk :=
  match ofM l n t with
  | some s => ⟨1, s.data, [], false, []⟩
  | none => match ofM l n 5 with
    | some c => if pointD c then ⟨5, c.data.take 1, firstN c, false, []⟩ else ⟨2, [], [], false, []⟩
    | none => ⟨2, [], [], false, []⟩
def stepM (o : Nm) (on rs : List Rc) (q : Nm) (s : Nat) : Option Lk :=
  match (if o.length < s then ofM on (ancN q s) 2 else none) with
  | some ns => some (referM rs (ancN q s) ns)
  | none => match (if s < q.length then ofM on (ancN q s) 39 else none) with
    | some d => if pointD d then some (renameM q (ancN q s) d) else none
    | none => none
def onM (rs : List Rc) (q : Nm) : List Rc := rs.filter fun r => underN q r.owner
def lookM (o : Nm) (rs : List Rc) (q : Nm) (t : Int) : Lk :=
  if underN q o = false then ⟨7, [], [], false, []⟩ else
  match (List.range' o.length (q.length + 1 - o.length)).findSome? (stepM o (onM rs q) rs q) with
  | some r => r
  | none => if existsM o rs q then atM (onM rs q) q t else if sourceM o rs q then { atM rs (starM o rs q) t with wild := true } else ⟨3, [], [], false, []⟩
def sameG : List (Nm × List Dat) → List (Nm × List Dat) → Bool
  | [], [] => true
  | x :: r, y :: t => sameN x.1 y.1 && sameDsM x.2 y.2 && sameG r t
  | _, _ => false
def sameLk (a b : Lk) : Bool := decide (a.kind = b.kind) && decide (a.wild = b.wild) && sameN a.name b.name && sameDsM a.data b.data && sameG a.glue b.glue

theorem ofM_cases (l : List Rc) (o : Nm) (t : Int) : (ofM l o t = none ∧ l.filter (belM o t) = []) ∨ ∃ y r, canonM (l.filter (belM o t)) = y :: r ∧ ofM l o t = some (stR y (r.takeWhile (belR y))) := by
  unfold ofM
  cases h : canonM (l.filter (belM o t)) with
  | nil =>
    left
    refine ⟨by rw [setsM_nil]; rfl, ?_⟩
    rw [List.eq_nil_iff_forall_not_mem]
    intro y hy
    obtain ⟨b, hb, _⟩ := covers_canon (l.filter (belM o t)) y hy
    rw [h] at hb; cases hb
  | cons y r =>
    right
    exact ⟨y, r, rfl, by rw [setsM_cons]; rfl⟩
theorem ofM_congr {l m : List Rc} {o p : Nm} {t : Int} (h : l.filter (belM o t) = m.filter (belM p t)) : ofM l o t = ofM m p t := by
  unfold ofM; rw [h]
theorem ofM_same {o p : Nm} (h : sameN o p = true) (l : List Rc) (t : Int) : ofM l o t = ofM l p t := by
  apply ofM_congr
  congr 1
  funext r
  unfold belM
  rw [show sameN r.owner o = sameN r.owner p from by
    have := (sameN_iff _ _).1 h
    unfold sameN; rw [this]]
theorem ofM_none {l : List Rc} {o : Nm} {t : Int} : ofM l o t = none ↔ ∀ r ∈ l, belM o t r = false := by
  rcases ofM_cases l o t with ⟨h, e⟩ | ⟨y, r, e, h⟩
  · rw [h]
    simp only [true_iff]
    intro x hx
    rw [List.filter_eq_nil_iff] at e
    simpa using e x hx
  · rw [h]
    simp only [reduceCtorEq, false_iff]
    intro hn
    have : l.filter (belM o t) = [] := List.filter_eq_nil_iff.2 (fun x hx => by rw [hn x hx]; simp)
    rw [this] at e
    have := canonM_length ([] : List Rc)
    rw [e] at this; simp at this
theorem ofM_data {l : List Rc} {o : Nm} {t : Int} {s : St} (h : ofM l o t = some s) : s.data ≠ [] ∧ ∀ d ∈ s.data, d.ty = t := by
  rcases ofM_cases l o t with ⟨e, _⟩ | ⟨y, r, e, h2⟩
  · rw [e] at h; cases h
  · rw [h] at h2
    injection h2 with h2
    subst h2
    have hty : ∀ x ∈ y :: r, x.data.ty = t := fun x hx => by
      rw [← e] at hx
      obtain ⟨a, ha, h1, _⟩ := canon_covers _ x hx
      rw [← cR_type h1]
      have := (List.mem_filter.1 ha).2
      simp only [belM, Bool.and_eq_true, decide_eq_true_eq] at this
      exact this.1
    refine ⟨by simp [stR], fun d hd => ?_⟩
    simp only [stR, List.mem_cons, List.mem_map] at hd
    rcases hd with rfl | ⟨x, hx, rfl⟩
    · exact hty y (by simp)
    · exact hty x (by have := (List.takeWhile_sublist (p := belR y) (l := r)).subset hx; simp [this])
theorem ofM_on {rs : List Rc} {q n : Nm} {t : Int} (h : underN q n = true) : ofM (onM rs q) n t = ofM rs n t := by
  apply ofM_congr
  unfold onM
  rw [List.filter_filter]
  apply List.filter_congr
  intro r _
  cases hb : belM n t r
  · rfl
  · simp only [belM, Bool.and_eq_true] at hb
    rw [Bool.true_and, under_sameN hb.2, h]
theorem at_kind (l : List Rc) (n : Nm) (t : Int) : (atM l n t).kind = 1 ∨ (atM l n t).kind = 2 ∨ (atM l n t).kind = 5 := by
  unfold atM
  split
  · simp
  · split
    · split <;> simp
    · simp
theorem at_types {l : List Rc} {n : Nm} {t : Int} : ∀ d ∈ (atM l n t).data, ((atM l n t).kind = 1 → d.ty = t) ∧ ((atM l n t).kind = 5 → d.ty = 5) := by
  unfold atM
  split
  · rename_i s h
    intro d hd
    exact ⟨fun _ => (ofM_data h).2 d hd, fun e => by simp at e⟩
  · split
    · rename_i c h
      split
      · intro d hd
        exact ⟨fun e => by simp at e, fun _ => (ofM_data h).2 d (List.mem_of_mem_take hd)⟩
      · simp
    · simp
theorem step_kind {o : Nm} {on rs : List Rc} {q : Nm} {s : Nat} {r : Lk} (h : stepM o on rs q s = some r) : (r.kind = 4 ∧ ∀ d ∈ r.data, d.ty = 2) ∨ (r.kind = 5 ∧ ∀ d ∈ r.data, d.ty = 39) ∨ (r.kind = 6 ∧ r.data = []) := by
  unfold stepM at h
  split at h
  · rename_i ns hn
    left
    injection h with h
    subst h
    split at hn
    · exact ⟨rfl, (ofM_data hn).2⟩
    · cases hn
  · split at h
    · rename_i d hd
      split at h
      · injection h with h
        subst h
        split at hd
        · unfold renameM
          split
          · exact .inr (.inl ⟨rfl, fun x hx => (ofM_data hd).2 x (List.mem_of_mem_take hx)⟩)
          · exact .inr (.inr ⟨rfl, rfl⟩)
        · cases hd
      · cases h
    · cases h
theorem look_types (o : Nm) (rs : List Rc) (q : Nm) (t u : Int) :
    (∀ d ∈ (lookM o rs q t).data, ((lookM o rs q t).kind = 1 → d.ty = t) ∧ ((lookM o rs q t).kind = 4 → d.ty = 2) ∧ ((lookM o rs q t).kind = 5 → d.ty = 5 ∨ d.ty = 39)) ∧
    (((lookM o rs q t).kind = 1 ∨ (lookM o rs q t).kind = 2) → ((lookM o rs q u).kind = 1 ∨ (lookM o rs q u).kind = 2 ∨ (lookM o rs q u).kind = 5)) ∧
    ((lookM o rs q t).kind = 3 ↔ (lookM o rs q u).kind = 3) ∧ ((lookM o rs q t).kind = 4 ↔ (lookM o rs q u).kind = 4) ∧ ((lookM o rs q t).kind = 7 ↔ (lookM o rs q u).kind = 7) := by
  unfold lookM
  split
  · simp
  · split
    · rename_i r h
      obtain ⟨s, _, hs⟩ := List.exists_of_findSome?_eq_some h
      rcases step_kind hs with ⟨e, h⟩ | ⟨e, h⟩ | ⟨e, h⟩ <;> rw [e]
      · exact ⟨fun d hd => ⟨by simp, fun _ => h d hd, by simp⟩, by simp, by simp, by simp, by simp⟩
      · exact ⟨fun d hd => ⟨by simp, by simp, fun _ => .inr (h d hd)⟩, by simp, by simp, by simp, by simp⟩
      · rw [h]; simp
    · have key : ∀ (l : List Rc) (n : Nm) (w : Bool), (∀ d ∈ (atM l n t).data, ((atM l n t).kind = 1 → d.ty = t) ∧ ((atM l n t).kind = 4 → d.ty = 2) ∧ ((atM l n t).kind = 5 → d.ty = 5 ∨ d.ty = 39)) ∧ (((atM l n t).kind = 1 ∨ (atM l n t).kind = 2) → ((atM l n u).kind = 1 ∨ (atM l n u).kind = 2 ∨ (atM l n u).kind = 5)) ∧ ((atM l n t).kind = 3 ↔ (atM l n u).kind = 3) ∧ ((atM l n t).kind = 4 ↔ (atM l n u).kind = 4) ∧ ((atM l n t).kind = 7 ↔ (atM l n u).kind = 7) := fun l n w => by
        refine ⟨fun d hd => ⟨(at_types d hd).1, fun e => ?_, fun e => .inl ((at_types d hd).2 e)⟩, fun _ => at_kind l n u, ?_, ?_, ?_⟩
        · rcases at_kind l n t with h | h | h <;> rw [h] at e <;> cases e
        all_goals
          rcases at_kind l n t with h | h | h <;> rcases at_kind l n u with g | g | g <;> rw [h, g] <;> simp
      split
      · exact key _ _ false
      · split
        · exact key _ _ true
        · simp
end Go.Proofs.YtckammgnmgkieaaGreat

/-
  The zone's answers (look), plainly: what is at or below a cut; the case of letters.
-/
namespace Go.Proofs.YtckammgnmgkieaaGreat
set_option maxRecDepth 20000
open Go.RowKit
set_option linter.unusedVariables false
set_option linter.unusedSimpArgs false
theorem sameG_refl : ∀ l, sameG l l = true
  | [] => rfl
  | x :: r => by simp [sameG, sameN_refl, sameDsM_self, sameG_refl r]
theorem sameLk_refl (a : Lk) : sameLk a a = true := by simp [sameLk, sameN_refl, sameDsM_self, sameG_refl]
theorem step_on {o : Nm} {rs : List Rc} {q : Nm} {s : Nat} : stepM o (onM rs q) rs q s = stepM o rs rs q s := by
  unfold stepM
  rw [ofM_on (under_anc q s), ofM_on (under_anc q s)]
theorem find_step {o : Nm} {rs : List Rc} {q : Nm} (l : List Nat) : l.findSome? (stepM o (onM rs q) rs q) = l.findSome? (stepM o rs rs q) := by
  congr 1; funext s; exact step_on
theorem owner_anc {q w : Nm} {s : Nat} (hs : s ≤ q.length) : sameN w (ancN q s) = (underN q w && decide (w.length = s)) := by
  rw [Bool.eq_iff_iff, Bool.and_eq_true, decide_eq_true_eq]
  constructor
  · intro h
    have hl : w.length = s := by
      have := (sameN_iff _ _).1 h
      have := congrArg List.length this
      rw [foldN_len, foldN_len, ancN_len hs] at this; exact this
    exact ⟨under_of_same (by rw [hl, sameN_symm]; exact h), hl⟩
  · rintro ⟨h, rfl⟩
    rw [sameN_symm]; exact under_same h
theorem ofM_point {rs : List Rc} {q : Nm} {s : Nat} (hs : s ≤ q.length) : (ofM rs (ancN q s) 2).isSome = (pointM rs q).contains s := by
  rw [point_has, Bool.eq_iff_iff, List.any_eq_true]
  constructor
  · intro h
    have hn : ¬ ofM rs (ancN q s) 2 = none := fun e => by rw [e] at h; cases h
    rw [ofM_none] at hn
    simp only [Classical.not_forall] at hn
    obtain ⟨r, hr, hb⟩ := hn
    refine ⟨r, hr, ?_⟩
    simp only [Bool.not_eq_false] at hb
    unfold belM at hb
    rw [owner_anc hs] at hb
    rw [Bool.and_assoc]; exact hb
  · rintro ⟨r, hr, hb⟩
    cases e : ofM rs (ancN q s) 2 with
    | some x => rfl
    | none =>
      have := ofM_none.1 e r hr
      unfold belM at this
      rw [owner_anc hs, ← Bool.and_assoc, hb] at this
      cases this
def renS (rs : List Rc) (q : Nm) (s : Nat) : Option Lk := match ofM rs (ancN q s) 39 with | some d => if pointD d then some (renameM q (ancN q s) d) else none | none => none
theorem step_free {o : Nm} {rs : List Rc} {q : Nm} {s : Nat} (hs : s < q.length) (hp : o.length < s → (pointM rs q).contains s = false) : stepM o rs rs q s = renS rs q s := by
  unfold stepM renS
  rw [if_pos hs]
  by_cases h : o.length < s
  · rw [if_pos h]
    have := ofM_point (rs := rs) (q := q) (Nat.le_of_lt hs)
    rw [hp h] at this
    cases e : ofM rs (ancN q s) 2 with
    | some x => rw [e] at this; cases this
    | none => rfl
  · rw [if_neg h]; first | done | rfl
theorem findSome_pair {α β : Type} {f g : α → Option β} {P : β → Prop} : ∀ (l : List α), (∀ x ∈ l, (f x = none ∧ g x = none) ∨ ∃ a b, f x = some a ∧ g x = some b ∧ P a ∧ P b) → (l.findSome? f = none ∧ l.findSome? g = none) ∨ ∃ a b, l.findSome? f = some a ∧ l.findSome? g = some b ∧ P a ∧ P b
  | [], _ => .inl ⟨rfl, rfl⟩
  | x :: r, h => by
    rw [List.findSome?_cons, List.findSome?_cons]
    rcases h x (by simp) with ⟨h1, h2⟩ | ⟨a, b, h1, h2, h3, h4⟩
    · rw [h1, h2]; exact findSome_pair r (fun y hy => h y (by simp [hy]))
    · rw [h1, h2]; exact .inr ⟨a, b, rfl, rfl, h3, h4⟩
theorem ren_kind (q n : Nm) (d : St) : (renameM q n d).kind = 5 ∨ (renameM q n d).kind = 6 := by unfold renameM; split <;> simp
theorem look_free {o : Nm} {rs : List Rc} {q : Nm} {t : Int} (hu : underN q o = true) (h : cutM o rs q = none) : (lookM o rs q t).kind ≠ 4 ∧ (lookM o rs q t).kind ≠ 7 := by
  have hl := underN_len hu
  have hfree : ∀ s, o.length < s → s ≤ q.length → (pointM rs q).contains s = false := fun s h1 h2 => by
    unfold cutM at h
    rw [if_pos hu, List.find?_eq_none] at h
    have := h s (by rw [List.mem_range'_1]; omega)
    simpa using this
  unfold lookM
  rw [if_neg (by rw [hu]; simp), find_step]
  split
  · rename_i r hr
    obtain ⟨s, hs1, hs⟩ := List.exists_of_findSome?_eq_some hr
    rw [List.mem_range'_1] at hs1
    unfold stepM at hs
    have hn : (if o.length < s then ofM rs (ancN q s) 2 else none) = none := by
      split
      · rename_i h1
        have := ofM_point (rs := rs) (q := q) (s := s) (by omega)
        rw [hfree s h1 (by omega)] at this
        cases e : ofM rs (ancN q s) 2 with
        | some x => rw [e] at this; cases this
        | none => rfl
      · rfl
    rw [hn] at hs
    simp only at hs
    split at hs
    · split at hs
      · injection hs with hs
        subst hs
        rename_i d _ _
        rcases ren_kind q (ancN q s) d with e | e <;> rw [e] <;> simp
      · cases hs
    · cases hs
  · split
    · rcases at_kind (onM rs q) q t with e | e | e <;> rw [e] <;> simp
    · split
      · rcases at_kind rs (starM o rs q) t with e | e | e <;> simp [e]
      · simp
theorem look_below {o : Nm} {rs : List Rc} {q : Nm} {s : Nat} (h : cutM o rs q = some s) (t u : Int) :
    ((((lookM o rs (ancN q s) t).kind = 5 ∨ (lookM o rs (ancN q s) t).kind = 6) ∧ ((lookM o rs q t).kind = 5 ∨ (lookM o rs q t).kind = 6)) ∨
     ((lookM o rs (ancN q s) t).kind = 4 ∧ (lookM o rs q t) = lookM o rs (ancN q s) t ∧ lookM o rs q u = lookM o rs q t ∧ (lookM o rs (ancN q s) t).name = ancN q s ∧ (lookM o rs (ancN q s) t).data ≠ [])) := by
  obtain ⟨hu, h1, h2⟩ := cutM_some h
  have hcu : underN (ancN q s) o = true := by rw [anc_under h2 (by omega)]; exact hu
  have hcl : (ancN q s).length = s := ancN_len h2
  have hfree : ∀ j, o.length < j → j < s → (pointM rs q).contains j = false := fun j a b => by
    unfold cutM at h
    rw [if_pos hu] at h
    rw [List.find?_eq_some_iff_append] at h
    obtain ⟨_, l1, l2, e, hb⟩ := h
    have hj : j ∈ List.range' (o.length + 1) (q.length - o.length) := by rw [List.mem_range'_1]; omega
    have hlt : l1.length = s - (o.length + 1) := by
      have e2 : (List.range' (o.length + 1) (q.length - o.length))[l1.length]? = some s := by rw [e]; simp
      rw [List.getElem?_eq_some_iff] at e2
      obtain ⟨h3, h4⟩ := e2
      rw [List.getElem_range'] at h4
      omega
    have hm : j ∈ l1 := by
      have e2 : (List.range' (o.length + 1) (q.length - o.length))[j - (o.length + 1)]? = some j := by
        rw [List.getElem?_eq_some_iff]
        exact ⟨by rw [List.length_range']; omega, by rw [List.getElem_range']; omega⟩
      rw [e, List.getElem?_append_left (by omega)] at e2
      exact List.mem_of_getElem? e2
    have := hb j hm
    simpa using this
  have hhas : (pointM rs q).contains s = true := by
    unfold cutM at h
    rw [if_pos hu] at h
    exact List.find?_some h
  have hns : ∃ ns, ofM rs (ancN q s) 2 = some ns := by
    have := ofM_point (rs := rs) (q := q) h2
    rw [hhas] at this
    exact Option.isSome_iff_exists.1 this
  obtain ⟨ns, hns⟩ := hns
  have hq : List.range' o.length (q.length + 1 - o.length) = List.range' o.length (s - o.length) ++ s :: List.range' (s + 1) (q.length - s) := by
    have e : q.length + 1 - o.length = (s - o.length) + (1 + (q.length - s)) := by omega
    rw [e, ← List.range'_append_1, Nat.add_comm 1, show o.length + (s - o.length) = s by omega, List.range'_succ]
  have hc : List.range' o.length ((ancN q s).length + 1 - o.length) = List.range' o.length (s - o.length) ++ [s] := by
    rw [hcl]
    have e : s + 1 - o.length = (s - o.length) + 1 := by omega
    rw [e, ← List.range'_append_1]
    rw [show o.length + (s - o.length) = s by omega]
    rfl
  have hsq : stepM o rs rs q s = some (referM rs (ancN q s) ns) := by unfold stepM; rw [if_pos h1, hns]
  have hsc : stepM o rs rs (ancN q s) s = some (referM rs (ancN q s) ns) := by
    unfold stepM
    have : ancN (ancN q s) s = ancN q s := ancN_anc (Nat.le_refl _) h2
    rw [if_pos h1, this, hns]
  have hpair := findSome_pair (f := stepM o rs rs (ancN q s)) (g := stepM o rs rs q) (P := fun r : Lk => r.kind = 5 ∨ r.kind = 6) (List.range' o.length (s - o.length)) (fun j hj => by
    rw [List.mem_range'_1] at hj
    have e : ancN (ancN q s) j = ancN q j := ancN_anc (by omega) h2
    rw [step_free (q := q) (by omega) (fun a => hfree j a (by omega)), step_free (q := ancN q s) (by rw [hcl]; omega) (fun a => by rw [point_anc h2 (by omega)]; exact hfree j a (by omega))]
    unfold renS
    rw [e]
    cases ofM rs (ancN q j) 39 with
    | none => exact .inl ⟨rfl, rfl⟩
    | some d =>
      by_cases hp : pointD d = true
      · simp only [hp, if_true]
        exact .inr ⟨_, _, rfl, rfl, ren_kind _ _ _, ren_kind _ _ _⟩
      · simp only [hp, if_false]
        exact .inl ⟨by simp, by simp⟩)
  have lq : ∀ v, lookM o rs q v = match (List.range' o.length (s - o.length)).findSome? (stepM o rs rs q) with | some r => r | none => referM rs (ancN q s) ns := fun v => by
    unfold lookM
    rw [if_neg (by rw [hu]; simp), find_step, hq, List.findSome?_append, List.findSome?_cons, hsq]
    cases (List.range' o.length (s - o.length)).findSome? (stepM o rs rs q) <;> rfl
  have lc : lookM o rs (ancN q s) t = match (List.range' o.length (s - o.length)).findSome? (stepM o rs rs (ancN q s)) with | some r => r | none => referM rs (ancN q s) ns := by
    unfold lookM
    rw [if_neg (by rw [hcu]; simp), find_step, hc, List.findSome?_append, List.findSome?_cons, hsc]
    cases (List.range' o.length (s - o.length)).findSome? (stepM o rs rs (ancN q s)) <;> rfl
  rw [lq t, lq u, lc]
  rcases hpair with ⟨e1, e2⟩ | ⟨a, b, e1, e2, e3, e4⟩
  · rw [e1, e2]
    exact .inr ⟨rfl, rfl, rfl, rfl, (ofM_data hns).1⟩
  · rw [e1, e2]
    exact .inl ⟨e3, e4⟩
end Go.Proofs.YtckammgnmgkieaaGreat

/-
  law5.Few: are records few, and short.
-/
namespace Go.Proofs.YtckammgnmgkieaaGreat
set_option maxRecDepth 20000
open Go.RowKit Go.Shelf
set_option maxRecDepth 20000
set_option linter.unusedVariables false
set_option linter.unusedSimpArgs false

def RcArg (W : World) (cs : List Value) (r : Rc) : Prop :=
  ∃ vo vn vu vt vr, cs = [vo, .int .u32 (r.ttl : Int), .int .i64 r.data.ty, vn, vu, vt, vr] ∧ NmArg W vo r.owner ∧ DatArg W (.agg #[.int .i64 r.data.ty, vn, vu, vt, vr]) r.data ∧ r.ttl < 2 ^ 32
theorem RcArg.rcAt {W : World} {cs : List Value} {r : Rc} (h : RcArg W cs r) : RcAt W cs r := by
  obtain ⟨vo, vn, vu, vt, vr, e, h1, h2, _⟩ := h
  exact ⟨vo, vn, vu, vt, vr, e, h1.1, h2.1⟩
def fewR (r : Rc) : Bool := fewN r.owner && fewD r.data
theorem RcArg.ok {W : World} {cs : List Value} {r : Rc} (h : RcArg W cs r) (hf : fewR r = true) : RcOK r := by
  obtain ⟨vo, vn, vu, vt, vr, e, h1, h2, h3⟩ := h
  simp only [fewR, Bool.and_eq_true] at hf
  exact ⟨fewN_ok hf.1, h3, fewD_ok h2 hf.2⟩
def fewRs (l : List Rc) : Bool := decide (l.length ≤ 60) && l.all fewR
theorem all_step {l : List Rc} {k : Nat} (h : k < l.length) : (l.drop k).all fewR = (fewR l[k] && (l.drop (k + 1)).all fewR) := by
  rw [List.drop_eq_getElem_cons h]; rfl

set_option maxRecDepth 100000 in
set_option maxHeartbeats 8000000 in
theorem law5_Few (v : Value) (css : List (List Value)) (l : List Rc) (w0 w : World) (hA : SlK w0 v css) (hR : css.length = l.length ∧ ∀ i (h1 : i < css.length) (h2 : i < l.length), RcArg w0 css[i] l[i]) (hwz : Below w0.heap.size w0 w) :
    Calls Tryz.prog 12 #[v] w fun e w' => e = .returned (.bool (fewRs l)) ∧ Below w.heap.size w w' := by
  obtain ⟨a, c, rfl, hc1, -, -⟩ := id hA
  obtain ⟨n, hn⟩ : ∃ n, css.length = n := ⟨_, rfl⟩
  rw [hn] at hA hc1 ⊢
  have HA := Lib.hid hA; have HR := Lib.hid hR; have HWZ := Lib.hid hwz; have HLN := Lib.hid hn
  have HLL := Lib.hid (show l.length = n by rw [← hn]; exact hR.1.symm)
  obtain ⟨res, hres⟩ : ∃ r, fewRs l = r := ⟨_, rfl⟩
  rw [hres]
  have HRES := Lib.hid hres
  clear hA hR hwz hn hres
  by_cases h60 : 60 < n
  · have h60z : (60 : Int) < (n : Int) := by omega
    have HE : Hid (res = false) := Lib.hid (by
      rw [← HRES.out]; unfold fewRs
      rw [decide_eq_false (by have := HLL.out; omega)]; rfl)
    go_enter Tryz.func12, Tryz.ntmps12
    go_wp2
    go_ret
    exact ⟨by rw [HE.out]; rfl, Below.refl _ _⟩
  · have h60z : ¬ (60 : Int) < (n : Int) := by omega
    have HE0 : Hid (res = l.all fewR) := Lib.hid (by
      rw [← HRES.out]; unfold fewRs
      rw [decide_eq_true (by have := HLL.out; omega)]; rfl)
    go_enter Tryz.func12, Tryz.ntmps12
    go_wp2
    go_loopw [3] (fun vi wr => ∃ (k : Nat), vi = .int .i64 k ∧ k ≤ n ∧ Hid (res = (l.drop k).all fewR) ∧ Hid (Below w.heap.size w wr)) (fun vi _ => n - (intOf vi).toNat)
    case atStart => exact ⟨0, rfl, Nat.zero_le _, Lib.hid HE0.out, Lib.hid (Below.refl _ _)⟩
    case round =>
      obtain ⟨k, rfl, hk, HC, HB⟩ := hrel
      by_cases hlt : k < n
      · have hltz : (k : Int) < (n : Int) := by omega
        have hk1 : k < css.length := by have := HLN.out; omega
        have hk2 : k < l.length := by have := HLL.out; omega
        have hck : ∀ cs ∈ css, cs.length = 7 := fun cs hc => by
          obtain ⟨i, hi, rfl⟩ := List.mem_iff_getElem.1 hc
          exact (HR.out.2 i hi (by have := HR.out.1; omega)).rcAt.len
        obtain ⟨b, off, rfl, hb, hel⟩ := HA.out.elem hck (by omega)
        have hbz : Below w0.heap.size w0 wr := HWZ.out.trans (HB.out.mono HWZ.out.size)
        have h0 := HR.out.2 k hk1 hk2
        have hst := all_step hk2
        obtain ⟨r, hr⟩ : ∃ r, l[k]'hk2 = r := ⟨_, rfl⟩
        rw [hr] at h0 hst
        clear hr
        obtain ⟨⟨p0, q0, r0⟩, ⟨p3, q3, r3⟩, ⟨p4, q4, r4⟩, ⟨p5, q5, r5⟩, ⟨p6, q6, r6⟩, e0⟩ := h0.rcAt.shape
        simp only at e0
        obtain ⟨c0, c1, c2, c3, c4, c5, c6⟩ := hel k hk1 _ _ _ _ _ _ _ e0 wr hbz
        have HEL := Lib.hid (fun W hb => hel k hk1 _ _ _ _ _ _ _ e0 W hb)
        rw [e0] at h0
        obtain ⟨_, _, _, _, _, e5, g1, g2, _⟩ := h0
        simp only [List.cons.injEq, and_true, true_and] at e5
        obtain ⟨rfl, rfl, rfl, rfl, rfl⟩ := e5
        obtain ⟨fn1, hf1⟩ : ∃ b, fewN r.owner = b := ⟨_, rfl⟩
        obtain ⟨fn2, hf2⟩ : ∃ b, fewD r.data = b := ⟨_, rfl⟩
        have hkf := kn_Few _ r.owner _ hf1 w0 wr g1 (g1.1.below hbz)
        have HDF := Lib.hid (fun W (hb : Below w0.heap.size w0 W) => law4_Few _ r.data W ⟨g2.1.below hb, g2.2⟩)
        rw [hf2] at HDF
        have HC2 : Hid (res = ((fn1 && fn2) && (l.drop (k + 1)).all fewR)) := Lib.hid (by rw [HC.out, hst]; unfold fewR; rw [hf1, hf2])
        have HBZ := Lib.hid hbz
        clear hst hf1 hf2 g1 g2 hbz hel e0 hck HC hk1 hk2
        cases fn1
        · have HE : Hid (res = false) := Lib.hid (by rw [HC2.out]; rfl)
          clear HC2
          go_wp2_with fail
          refine hkf.mono ?_
          rintro e w2 ⟨rfl, hb2⟩
          have HB2 := Lib.hid (HB.out.trans (hb2.mono HB.out.size))
          clear hb2 hkf
          go_wp2
          go_ret
          exact ⟨by rw [HE.out]; rfl, HB2.out⟩
        · go_wp2_with fail
          refine hkf.mono ?_
          rintro e w2 ⟨rfl, hb2⟩
          have HB2 := Lib.hid (HB.out.trans (hb2.mono HB.out.size))
          have hb0 : Below w0.heap.size w0 w2 := HBZ.out.trans (hb2.mono HBZ.out.size)
          obtain ⟨d0, d1, d2, d3, d4, d5, d6⟩ := HEL.out w2 hb0
          have hdf := HDF.out w2 hb0
          clear hb2 hkf hb0 c0 c1 c2 c3 c4 c5 c6 HEL HDF
          go_wp2_with fail
          refine hdf.mono ?_
          rintro e w3 ⟨rfl, hb3⟩
          have HB3 := Lib.hid (HB2.out.trans (hb3.mono HB2.out.size))
          clear hb3 hdf d0 d1 d2 d3 d4 d5 d6
          cases fn2
          · have HE : Hid (res = false) := Lib.hid (by rw [HC2.out]; rfl)
            clear HC2
            go_wp2
            go_ret
            exact ⟨by rw [HE.out]; rfl, HB3.out⟩
          · have HE : Hid (res = (l.drop (k + 1)).all fewR) := Lib.hid (by rw [HC2.out]; rfl)
            clear HC2
            go_wp2
            go_roundw
            case measure => simp [intOf]; omega
            case rel => exact ⟨k + 1, by go_num, by omega, HE, HB3⟩
      · obtain rfl : k = n := by omega
        have HE : Hid (res = true) := Lib.hid (by
          rw [HC.out, List.drop_of_length_le (by have := HLL.out; omega)]; rfl)
        clear HC
        go_wp2
        go_ret
        exact ⟨by rw [HE.out]; rfl, HB.out⟩
end Go.Proofs.YtckammgnmgkieaaGreat

/-
  law4.Of: the data as the document's. (Written by wip/tools/gen12.py.)
-/
namespace Go.Proofs.YtckammgnmgkieaaGreat
set_option maxRecDepth 20000
open Go.RowKit Go.Shelf
set_option maxRecDepth 20000
theorem sl_list : ∀ vs : List Value, (∀ x ∈ vs, ∃ s : SlV, x = slEnc s) → ∃ ss : List SlV, ss.map slEnc = vs
  | [], _ => ⟨[], rfl⟩
  | x :: r, h => by
    obtain ⟨s, hs⟩ := h x (by simp)
    obtain ⟨ss, hss⟩ := sl_list r (fun y hy => h y (by simp [hy]))
    exact ⟨s :: ss, by simp [hs, hss]⟩
theorem NmAt.sl {W : World} {v : Value} {xs : Nm} (h : NmAt W v xs) : ∃ s : SlV, v = slEnc s := by
  obtain ⟨⟨a, c, rfl, _⟩, _⟩ := h
  exact ⟨(a, xs.length, c), rfl⟩
theorem set5_block' {W : World} {R : Nat} {y0 y1 y2 y3 y4 : Value} (h : W.heap[R]? = some (.cells #[y0, y1, y2, y3, y4] 107)) (x0 x1 x2 x3 x4 : Value) : (set5 W R x0 x1 x2 x3 x4).heap[R]? = some (.cells #[x0, x1, x2, x3, x4] 107) :=
  block_set (block_set (block_set (block_set (block_set h 0 x0) 1 x1) 2 x2) 3 x3) 4 x4
theorem ownG_set5 {α : Type} {T : TypeId} {enc : α → Value} {W : World} {base : Nat} {v : Value} {xs : List α} {R : Nat} {y0 y1 y2 y3 y4 : Value} (h : W.heap[R]? = some (.cells #[y0, y1, y2, y3, y4] 107)) (x0 x1 x2 x3 x4 : Value) (hT : 107 ≠ T) (ho : OwnG T enc W base v xs) : OwnG T enc (set5 W R x0 x1 x2 x3 x4) base v xs :=
  ((((ho.keptB h hT 0 x0).keptB (block_set h 0 x0) hT 1 x1).keptB (block_set (block_set h 0 x0) 1 x1) hT 2 x2).keptB (block_set (block_set (block_set h 0 x0) 1 x1) 2 x2) hT 3 x3).keptB (block_set (block_set (block_set (block_set h 0 x0) 1 x1) 2 x2) 3 x3) hT 4 x4
theorem cells5' {W : World} {R : Nat} {T : TypeId} {x0 x1 x2 x3 x4 : Value} (h : W.heap[R]? = some (.cells #[x0, x1, x2, x3, x4] T)) :
    W.cell? ⟨R, 0, none⟩ = some x0 ∧ W.cell? ⟨R, 1, none⟩ = some x1 ∧ W.cell? ⟨R, 2, none⟩ = some x2 ∧ W.cell? ⟨R, 3, none⟩ = some x3 ∧ W.cell? ⟨R, 4, none⟩ = some x4 :=
  ⟨cell_of_block h 0 _ rfl, cell_of_block h 1 _ rfl, cell_of_block h 2 _ rfl, cell_of_block h 3 _ rfl, cell_of_block h 4 _ rfl⟩
theorem frozen5' {W : World} {R : Nat} {T : TypeId} {cs : Array Value} (h : W.heap[R]? = some (.cells cs T)) :
    W.frozen? ⟨R, 0, none⟩ = false ∧ W.frozen? ⟨R, 1, none⟩ = false ∧ W.frozen? ⟨R, 2, none⟩ = false ∧ W.frozen? ⟨R, 3, none⟩ = false ∧ W.frozen? ⟨R, 4, none⟩ = false :=
  ⟨frozen_block h 0, frozen_block h 1, frozen_block h 2, frozen_block h 3, frozen_block h 4⟩
theorem elemStrs : ElemT 23 44 24 := ⟨Tryz.underlying44, _, _, rfl, rfl, rfl, rfl, rfl⟩

end Go.Proofs.YtckammgnmgkieaaGreat

/-
  law4.Of: what its answer is made of. (Written by wip/tools/genofs.py from XDatN2.)
-/
namespace Go.Proofs.YtckammgnmgkieaaGreat
set_option maxRecDepth 20000
open Go.RowKit Go.Shelf
set_option maxRecDepth 20000
set_option linter.unusedVariables false
set_option linter.unusedSimpArgs false

def OfPostS (w0 : World) (v : Value) (d : Dat) (w : World) (e : Ending) (w' : World) : Prop :=
  ∃ vn vn' vu vt vr, ∃ ss : List SlV, v = .agg #[.int .i64 d.ty, vn, vu, vt, vr] ∧ e = .returned (.agg #[.int .i64 d.ty, vn', vu, vt, vr]) ∧ OwnG 23 slEnc w' w.heap.size vn' ss ∧ ss.length = d.names.length ∧
    (∀ j (h1 : j < ss.length) (h2 : j < d.names.length), NmAt w0 (slEnc ss[j]) d.names[j]) ∧ SlAt w0 vu (d.nums.map u32V) ∧ NmAt w0 vt d.texts ∧ SlAt w0 vr (d.raw.map bv) ∧ Below w.heap.size w w'
set_option maxRecDepth 100000 in
set_option maxHeartbeats 8000000 in
theorem law4_OfS (w0 : World) (v : Value) (d : Dat) (w : World) (hA : DatAt w0 v d) (hwz : Below w0.heap.size w0 w) (hk : d.names.length ≤ 1048576) :
    Calls Tryz.prog 78 #[v] w (OfPostS w0 v d w) := by
  obtain ⟨vn, vu, vt, vr, rfl, ⟨vs, s1, sl, s2⟩, a2, a3, a4⟩ := hA
  obtain ⟨an, ca, rfl, _⟩ := id s1
  obtain ⟨bn, cb, rfl, _⟩ := id a2
  obtain ⟨tn, ct, rfl, _⟩ := id a3.1
  obtain ⟨rn, cr, rfl, _⟩ := id a4
  obtain ⟨ss, hss⟩ := sl_list vs (fun x hx => by obtain ⟨j, hj, rfl⟩ := List.mem_iff_getElem.1 hx; exact (s2 j hj).sl)
  subst hss
  have HA2 := Lib.hid a2; have HA3 := Lib.hid a3; have HA4 := Lib.hid a4
  have hNA : ∀ j (_ : j < (ss.map slEnc).length) (h2 : j < d.names.length), NmAt w0 (ss.map slEnc)[j] d.names[j] := fun j h1 _ => s2 j h1
  have HNA := Lib.hid hNA
  have HCA := Lib.hid (fun W (hb : Below w.heap.size w W) j (hj : j < (ss.map slEnc).length) => (s1.below hwz).cell hb j hj)
  clear s1 s2 a2 a3 a4 hNA hwz
  rw [List.length_map] at sl
  rw [List.length_map, List.length_map, List.length_map]
  obtain ⟨n1, e1⟩ : ∃ n, ss.length = n := ⟨_, rfl⟩
  obtain ⟨n2, e2⟩ : ∃ n, d.nums.length = n := ⟨_, rfl⟩
  obtain ⟨n3, e3⟩ : ∃ n, d.texts.length = n := ⟨_, rfl⟩
  obtain ⟨n4, e4⟩ : ∃ n, d.raw.length = n := ⟨_, rfl⟩
  rw [List.length_map, e2] at HA2
  rw [e3] at HA3
  rw [List.length_map, e4] at HA4
  rw [e1, e2, e3, e4]
  have hn1 : n1 ≤ 1048576 := by omega
  have E1 := Lib.hid e1; have SL := Lib.hid sl
  clear e1 e2 e3 e4 sl hk
  go_enter Tryz.func78, Tryz.ntmps78
  go_upto_block 0 with fail
  have hW : ∀ W0, (((w.alloc (.cells #[.int .i64 d.ty, .slice an n1 ca, .slice bn n2 cb, .slice tn n3 ct, .slice rn n4 cr] 101)).alloc (.cells #[.int .i64 0, .slice none 0 0, .slice none 0 0, .slice none 0 0, .slice none 0 0] 107)).alloc (.cells #[.int .i64 d.ty, .slice none 0 0, .slice bn n2 cb, .slice tn n3 ct, .slice rn n4 cr] 107)) = W0 → Below w.heap.size w W0 ∧ (∀ (j : Nat) (z : Value), [Value.int .i64 d.ty, .slice an n1 ca, .slice bn n2 cb, .slice tn n3 ct, .slice rn n4 cr][j]? = some z → W0.cell? ⟨w.heap.size, j, none⟩ = some z) ∧ W0.heap[w.heap.size + 1]? = some (.cells #[.int .i64 0, .slice none 0 0, .slice none 0 0, .slice none 0 0, .slice none 0 0] 107) ∧ W0.heap[w.heap.size + 1 + 1]? = some (.cells #[.int .i64 d.ty, .slice none 0 0, .slice bn n2 cb, .slice tn n3 ct, .slice rn n4 cr] 107) := by
    rintro W0 rfl
    have hz1 : (w.alloc (.cells #[.int .i64 d.ty, .slice an n1 ca, .slice bn n2 cb, .slice tn n3 ct, .slice rn n4 cr] 101)).heap.size = w.heap.size + 1 := by simp
    have hz2 : ((w.alloc (.cells #[.int .i64 d.ty, .slice an n1 ca, .slice bn n2 cb, .slice tn n3 ct, .slice rn n4 cr] 101)).alloc (.cells #[.int .i64 0, .slice none 0 0, .slice none 0 0, .slice none 0 0, .slice none 0 0] 107)).heap.size = w.heap.size + 1 + 1 := by simp
    have e0 := new_at w [.int .i64 d.ty, .slice an n1 ca, .slice bn n2 cb, .slice tn n3 ct, .slice rn n4 cr] 101
    have e1 := block_new (w.alloc (.cells #[.int .i64 d.ty, .slice an n1 ca, .slice bn n2 cb, .slice tn n3 ct, .slice rn n4 cr] 101)) (.cells #[.int .i64 0, .slice none 0 0, .slice none 0 0, .slice none 0 0, .slice none 0 0] 107)
    have e2 := block_new ((w.alloc (.cells #[.int .i64 d.ty, .slice an n1 ca, .slice bn n2 cb, .slice tn n3 ct, .slice rn n4 cr] 101)).alloc (.cells #[.int .i64 0, .slice none 0 0, .slice none 0 0, .slice none 0 0, .slice none 0 0] 107)) (.cells #[.int .i64 d.ty, .slice none 0 0, .slice bn n2 cb, .slice tn n3 ct, .slice rn n4 cr] 107)
    rw [hz1] at e1
    rw [hz2] at e2
    have b1 : Below (w.heap.size + 1) (w.alloc (.cells #[.int .i64 d.ty, .slice an n1 ca, .slice bn n2 cb, .slice tn n3 ct, .slice rn n4 cr] 101)) (((w.alloc (.cells #[.int .i64 d.ty, .slice an n1 ca, .slice bn n2 cb, .slice tn n3 ct, .slice rn n4 cr] 101)).alloc (.cells #[.int .i64 0, .slice none 0 0, .slice none 0 0, .slice none 0 0, .slice none 0 0] 107)).alloc (.cells #[.int .i64 d.ty, .slice none 0 0, .slice bn n2 cb, .slice tn n3 ct, .slice rn n4 cr] 107)) := ((Below.refl _ _).alloc (by simp) _).alloc (by simp) _
    have b2 : Below (w.heap.size + 1 + 1) ((w.alloc (.cells #[.int .i64 d.ty, .slice an n1 ca, .slice bn n2 cb, .slice tn n3 ct, .slice rn n4 cr] 101)).alloc (.cells #[.int .i64 0, .slice none 0 0, .slice none 0 0, .slice none 0 0, .slice none 0 0] 107)) (((w.alloc (.cells #[.int .i64 d.ty, .slice an n1 ca, .slice bn n2 cb, .slice tn n3 ct, .slice rn n4 cr] 101)).alloc (.cells #[.int .i64 0, .slice none 0 0, .slice none 0 0, .slice none 0 0, .slice none 0 0] 107)).alloc (.cells #[.int .i64 d.ty, .slice none 0 0, .slice bn n2 cb, .slice tn n3 ct, .slice rn n4 cr] 107)) := (Below.refl _ _).alloc (by simp) _
    refine ⟨(((Below.refl _ w).alloc (Nat.le_refl _) _).alloc (by simp) _).alloc (by simp; omega) _, fun j z h => (b1.cell (p := ⟨w.heap.size, j, none⟩) (Nat.lt_succ_self _)).trans (e0 j z h), (b2.block _ (Nat.lt_succ_self _)).trans e1, e2⟩
  generalize hW0 : (((w.alloc (.cells #[.int .i64 d.ty, .slice an n1 ca, .slice bn n2 cb, .slice tn n3 ct, .slice rn n4 cr] 101)).alloc (.cells #[.int .i64 0, .slice none 0 0, .slice none 0 0, .slice none 0 0, .slice none 0 0] 107)).alloc (.cells #[.int .i64 d.ty, .slice none 0 0, .slice bn n2 cb, .slice tn n3 ct, .slice rn n4 cr] 107)) = W0
  obtain ⟨k1, k2, k3, k4⟩ := hW W0 hW0
  clear hW hW0
  have K1 := Lib.hid k1; have K2 := Lib.hid k2; have K3 := Lib.hid k3; have K4 := Lib.hid k4
  clear k1 k2 k3 k4
  go_wp2_with fail
  go_loopw [4] (fun i wr => ∃ (k : Nat) (a : Option Addr) (c : Nat), i = .int .i64 k ∧ k ≤ n1 ∧ Hid (OwnG 23 slEnc wr (w.heap.size + 3) (.slice a k c) (ss.take k)) ∧ Hid (wr.heap[w.heap.size + 1 + 1]? = some (.cells #[.int .i64 d.ty, .slice a k c, .slice bn n2 cb, .slice tn n3 ct, .slice rn n4 cr] 107)) ∧ Hid (Below (w.heap.size + 2) W0 wr)) (fun i _ => n1 - (intOf i).toNat)
  case atStart => exact ⟨0, none, 0, rfl, Nat.zero_le _, Lib.hid (OwnG.nil _ _), K4, Lib.hid (Below.refl _ _)⟩
  case round =>
    obtain ⟨k, a, c, rfl, hkn, HOW, HBX, HB⟩ := hrel
    have hx1 := (HB.out.cell (p := ⟨w.heap.size, 1, none⟩) (by show w.heap.size < _; omega)).trans (K2.out 1 _ rfl)
    have hx3 := cell_of_block HBX.out 1 _ rfl
    have hB0 := K1.out.trans (HB.out.mono (by omega))
    have hsz := block_lt HBX.out
    by_cases hlt : k < n1
    · have hks : k < ss.length := by rw [E1.out]; exact hlt
      obtain ⟨g, off, rfl, hg, hc⟩ := HCA.out wr hB0 k (by rw [List.length_map]; exact hks)
      rw [List.getElem_map] at hc
      have HTK := Lib.hid (show ss.take (k + 1) = ss.take k ++ [ss[k]] from List.take_succ_eq_append_getElem hks)
      obtain ⟨⟨pa, pn, pc⟩, hp⟩ : ∃ s, ss[k] = s := ⟨_, rfl⟩
      rw [hp] at hc HTK
      unfold slEnc at hc
      simp only at hc
      have hkn1 : (0 : Int) ≤ (k : Int) := by omega
      have hkn2 : (k : Int) < (n1 : Int) := by omega
      have HH := Lib.hid (And.intro hg (And.intro hsz hlt))
      obtain ⟨ht0, i0, zz, hi, hz0, hz1, hz2, hzc⟩ := elemStrs
      have hown2 : wr.ownsRow (w.heap.size + 3) 23 1 (.slice a k c) k ((ss.take k).map slEnc) := by
        have h := HOW.out
        unfold OwnG at h
        rw [List.length_take, Nat.min_eq_left (by omega)] at h
        exact h
      have HOB := Lib.hid HOW.out.base_le
      have hAw : ∀ W, Below wr.heap.size wr W → W.cell? ⟨w.heap.size, 1, none⟩ = some (.slice (some ⟨g, off, none⟩) n1 ca) ∧ W.cell? ⟨g, off + k, none⟩ = some (.slice pa pn pc) ∧ W.cell? ⟨w.heap.size + 1 + 1, 1, none⟩ = some (.slice a k c) := fun W hb =>
        ⟨(hb.cell (p := ⟨w.heap.size, 1, none⟩) (by show w.heap.size < _; omega)).trans hx1, (hb.cell (p := ⟨g, off + k, none⟩) (by show g < _; omega)).trans hc, (hb.cell (p := ⟨w.heap.size + 1 + 1, 1, none⟩) hsz).trans hx3⟩
      obtain ⟨da1, da2, da3⟩ := hAw wr.drew (below_drew1 (Below.refl _ _))
      obtain ⟨db1, db2, db3⟩ := hAw (wr.drew.alloc (.cells #[.slice pa pn pc] 23)) ((below_drew1 (Below.refl _ _)).alloc (Nat.le_refl _) _)
      have HBY : Hid ((wr.drew.alloc (.cells #[.slice pa pn pc] 23)).heap[w.heap.size + 1 + 1]? = some (.cells #[.int .i64 d.ty, .slice a k c, .slice bn n2 cb, .slice tn n3 ct, .slice rn n4 cr] 107)) := Lib.hid ((((below_drew1 (Below.refl wr.heap.size wr)).alloc (Nat.le_refl _) _).block _ hsz).trans HBX.out)
      have HOY : Hid (OwnG 23 slEnc (wr.drew.alloc (.cells #[.slice pa pn pc] 23)) (w.heap.size + 3) (.slice a k c) (ss.take k)) := Lib.hid (HOW.out.drew.alloc _)
      have HH := Lib.hid (And.intro hg (And.intro hsz hlt))
      clear hp hks hB0 hg hlt hAw
      go_wp2_with fail
      go_region_law (first
        | (refine step_append_lies _ (by rfl) _ _ _ (by rfl) (w.heap.size + 3) 23 i0 zz 1 24 ht0 hi hz0 hz1 hz2 hzc (by omega) (.slice a k c) k ((ss.take k).map slEnc) (by rfl) ((hown2.drew).alloc _)
            ⟨wr.heap.size, 0, none⟩ 1 1 [.slice pa pn pc] (by rfl) (by rfl) (World.news_of_block (cs := #[.slice pa pn pc]) (t := 23) (fr := (0, 0)) (heap_alloc_new wr _)) (by simp [Value.oneCell'])
            (by omega) (by unfold maxLen; omega) (by omega) (by simp; omega) (wr.heap.size + 1) (by simp) ?_; intro gg cap w6 hown6 hgrow hat hlt6; have hbx6 := Lib.hid ((hgrow.block (w.heap.size + 1 + 1) (block_lt HBY.out) (HOY.out.ne_block HBY.out (by decide))).trans HBY.out); have hc6 := cell_of_block hbx6.out 1 _ rfl; have hf6 := frozen_block hbx6.out 1))
      all_goals
        have HO6 := Lib.hid (show OwnG 23 slEnc (w6.setCell ⟨w.heap.size + 1 + 1, 1, none⟩ (.slice (some ⟨gg, 0, none⟩) (k + 1) cap)) (w.heap.size + 3) (.slice (some ⟨gg, 0, none⟩) (k + 1) cap) (ss.take (k + 1)) from by
          refine OwnG.keptB (cs := #[.int .i64 d.ty, .slice a k c, .slice bn n2 cb, .slice tn n3 ct, .slice rn n4 cr]) (t := 107) ?_ hbx6.out (by decide) 1 _
          unfold OwnG
          rw [HTK.out, List.length_append, List.map_append, List.length_take, Nat.min_eq_left (by have := HH.out.2.2; have := E1.out; omega)]
          exact hown6)
        have HX6 := Lib.hid (show (w6.setCell ⟨w.heap.size + 1 + 1, 1, none⟩ (.slice (some ⟨gg, 0, none⟩) (k + 1) cap)).heap[w.heap.size + 1 + 1]? = some (.cells #[.int .i64 d.ty, .slice (some ⟨gg, 0, none⟩) (k + 1) cap, .slice bn n2 cb, .slice tn n3 ct, .slice rn n4 cr] 107) from block_set hbx6.out 1 _)
        have HB6 := Lib.hid (show Below (w.heap.size + 2) W0 (w6.setCell ⟨w.heap.size + 1 + 1, 1, none⟩ (.slice (some ⟨gg, 0, none⟩) (k + 1) cap)) from
          HB.out.trans ((((below_drew1 (Below.refl (w.heap.size + 2) wr)).alloc (by show w.heap.size + 2 ≤ wr.heap.size; omega) _).grown hgrow (by simp; omega) (fun x e => by have := HOB.out x e; omega)).setCell (p := ⟨w.heap.size + 1 + 1, 1, none⟩) (by show w.heap.size + 2 ≤ w.heap.size + 1 + 1; omega) _))
        have hltk := HH.out.2.2
        clear hown6 hgrow hat hlt6 hc6 hf6 hown2 da1 da2 da3 db1 db2 db3 hx1 hx3 hc
        go_wp2_with fail
        go_roundw
        case rel => exact ⟨k + 1, some ⟨gg, 0, none⟩, cap, by go_num, by omega, HO6, HX6, HB6⟩
        case measure => simp [intOf]; omega
    · obtain rfl : k = n1 := by omega
      have hkn3 : ¬ (k : Int) < (k : Int) := by omega
      have hR := (HB.out.block (w.heap.size + 1) (by omega)).trans K3.out
      obtain ⟨r0, r1, r2, r3, r4⟩ := cells5' HBX.out
      obtain ⟨f0, f1, f2, f3, f4⟩ := frozen5' hR
      obtain ⟨s0, s1, s2, s3, s4⟩ := cells5' hR
      have HR := Lib.hid hR
      have HB0 := Lib.hid hB0
      obtain ⟨q0, q1, q2, q3, q4⟩ := cells5' (set5_block' hR (.int .i64 d.ty) (.slice a k c) (.slice bn n2 cb) (.slice tn n3 ct) (.slice rn n4 cr))
      unfold set5 at q0 q1 q2 q3 q4
      clear hR hB0 hx3 hsz
      go_wp2_with fail
      refine bodyPost_ret (v := .agg #[.int .i64 d.ty, .slice a k c, .slice bn n2 cb, .slice tn n3 ct, .slice rn n4 cr]) (by simp [results, Tryz.results78, go_sem, q0, q1, q2, q3, q4]) rfl ?_
      have ho := ownG_set5 HR.out (.int .i64 d.ty) (.slice a k c) (.slice bn n2 cb) (.slice tn n3 ct) (.slice rn n4 cr) (by decide) HOW.out
      have ht : ss.take k = ss := List.take_of_length_le (by rw [E1.out]; exact Nat.le_refl _)
      rw [ht] at ho
      exact ⟨_, _, _, _, _, ss, rfl, rfl, ho.weaken (by omega), SL.out, fun j h1 h2 => (by have h := HNA.out j (by rw [List.length_map]; exact h1) h2; rw [List.getElem_map] at h; exact h), HA2.out, HA3.out, HA4.out, HB0.out.trans ((set5_below (Below.refl (w.heap.size + 1) wr) _ _ _ _ _).mono (by omega))⟩
end Go.Proofs.YtckammgnmgkieaaGreat

/-
  rec.Check; the closure of rec.SameRow.
-/
namespace Go.Proofs.YtckammgnmgkieaaGreat
set_option maxRecDepth 20000
open Go.RowKit Go.Shelf
set_option maxRecDepth 20000
set_option linter.unusedVariables false
set_option linter.unusedSimpArgs false

def checkR (r : Rc) : Int := if checkN r.owner ≠ 0 then checkN r.owner else if 2147483647 < r.ttl then 7 else checkD r.data

end Go.Proofs.YtckammgnmgkieaaGreat

