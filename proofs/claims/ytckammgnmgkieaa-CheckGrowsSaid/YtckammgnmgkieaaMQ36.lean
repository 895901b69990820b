/-
  A zone as a plain origin and a plain row: ancestors, cuts, depth, wildcards (plain).
-/
import Derived.Test.YtckammgnmgkieaaMQ12
import Derived.Test.YtckammgnmgkieaaMQ39
import Derived.Test.YtckammgnmgkieaaMQ15
import Derived.Test.YtckammgnmgkieaaMQ30
import Derived.Deep.RegionHeld3
namespace Go.Proofs.Ytckammgnmgkieaa
set_option maxRecDepth 20000
set_option linter.unusedVariables false
/-- The ancestor of n that has k labels. -/
def ancN (n : Nm) (k : Nat) : Nm := n.drop (n.length - k)
theorem ancN_len {n : Nm} {k : Nat} (h : k ≤ n.length) : (ancN n k).length = k := by simp [ancN]; omega
theorem ancN_all (n : Nm) : ancN n n.length = n := by simp [ancN]
theorem ancN_anc {n : Nm} {k j : Nat} (h : j ≤ k) (hk : k ≤ n.length) : ancN (ancN n k) j = ancN n j := by
  unfold ancN
  rw [List.drop_drop, List.length_drop]; congr 1; omega
theorem ancN_cons {x : List UInt8} {n : Nm} {k : Nat} (h : k ≤ n.length) : ancN (x :: n) k = ancN n k := by
  unfold ancN
  rw [List.length_cons, show n.length + 1 - k = (n.length - k) + 1 by omega, List.drop_succ_cons]
theorem sameN_under {a b : Nm} (h : sameN a b = true) (z : Nm) : underN a z = underN b z := by
  rw [Bool.eq_iff_iff, underN_iff, underN_iff, (sameN_iff _ _).1 h]
theorem under_sameN {a b : Nm} (h : sameN a b = true) (n : Nm) : underN n a = underN n b := by
  rw [Bool.eq_iff_iff, underN_iff, underN_iff, (sameN_iff _ _).1 h]
theorem under_anc (n : Nm) (k : Nat) : underN n (ancN n k) = true := by
  rw [underN_iff]
  exact ⟨(foldN n).take (n.length - k), by simp [ancN, foldN, List.map_drop]⟩
theorem under_up {w n : Nm} {k j : Nat} (h : underN w (ancN n k) = true) (hj : j ≤ k) (hk : k ≤ n.length) : underN w (ancN n j) = true := by
  refine underN_trans h ?_
  rw [← ancN_anc hj hk]
  exact under_anc _ _
/-- What n is under, is the ancestor of that length. -/
theorem under_same {n z : Nm} (h : underN n z = true) : sameN (ancN n z.length) z = true := by
  obtain ⟨p, e⟩ := (underN_iff _ _).1 h
  rw [sameN_iff]
  have hl : n.length = p.length + z.length := by have := congrArg List.length e; simpa [foldN] using this
  have : foldN (ancN n z.length) = (foldN n).drop p.length := by
    unfold ancN foldN
    rw [List.map_drop, show n.length - z.length = p.length by omega]
  rw [this, e, List.drop_left]
theorem under_of_same {n z : Nm} (h : sameN (ancN n z.length) z = true) : underN n z = true := by
  rw [← under_sameN h]; exact under_anc _ _
/-- Under an ancestor: for what is no longer than that. -/
theorem anc_under {n z : Nm} {k : Nat} (hk : k ≤ n.length) (hz : z.length ≤ k) : underN (ancN n k) z = underN n z := by
  rw [Bool.eq_iff_iff]
  constructor
  · exact fun h => underN_trans (under_anc _ _) h
  · intro h
    have := under_same h
    rw [← ancN_anc hz hk] at this
    exact under_of_same this

/-! ### depth -/
def deepF : Nat → Nm → Nm → Nat → Nat
  | 0, _, _, f => f
  | k + 1, n, w, f => if underN w (ancN n (f + 1)) then deepF k n w (f + 1) else f
def deepM (n w : Nm) (f : Nat) : Nat := deepF (n.length - f) n w f
def depthM (o : Nm) (rs : List Rc) (n : Nm) : Nat := rs.foldl (fun f r => deepM n r.owner f) o.length
theorem deepF_spec : ∀ (k : Nat) (n w : Nm) (f : Nat), f + k = n.length → f ≤ deepF k n w f ∧ deepF k n w f ≤ n.length ∧ (deepF k n w f = f ∨ underN w (ancN n (deepF k n w f)) = true) ∧ ∀ s, s ≤ n.length → underN w (ancN n s) = true → s ≤ deepF k n w f
  | 0, n, w, f, h => ⟨Nat.le_refl _, by simp [deepF]; omega, .inl rfl, fun s hs _ => by simp [deepF]; omega⟩
  | k + 1, n, w, f, h => by
    unfold deepF
    by_cases hu : underN w (ancN n (f + 1)) = true
    · rw [if_pos hu]
      obtain ⟨h1, h2, h3, h4⟩ := deepF_spec k n w (f + 1) (by omega)
      refine ⟨by omega, h2, .inr ?_, h4⟩
      rcases h3 with e | e
      · rw [e]; exact hu
      · exact e
    · rw [if_neg hu]
      refine ⟨Nat.le_refl _, by omega, .inl rfl, fun s hs hs2 => ?_⟩
      refine Nat.le_of_not_lt fun hlt => hu ?_
      exact under_up hs2 (by omega) hs
theorem deepM_spec {n w : Nm} {f : Nat} (h : f ≤ n.length) : f ≤ deepM n w f ∧ deepM n w f ≤ n.length ∧ (deepM n w f = f ∨ underN w (ancN n (deepM n w f)) = true) ∧ ∀ s, s ≤ n.length → underN w (ancN n s) = true → s ≤ deepM n w f :=
  deepF_spec _ n w f (by omega)
theorem deepM_step {n w : Nm} {f : Nat} (h : f < n.length) : deepM n w f = if underN w (ancN n (f + 1)) then deepM n w (f + 1) else f := by
  unfold deepM
  rw [show n.length - f = (n.length - (f + 1)) + 1 by omega]
  rfl
theorem deepM_end {n w : Nm} {f : Nat} (h : n.length ≤ f) : deepM n w f = f := by
  unfold deepM
  rw [show n.length - f = 0 by omega]; rfl
theorem depthF_spec (n : Nm) : ∀ (rs : List Rc) (f : Nat), f ≤ n.length → f ≤ rs.foldl (fun f r => deepM n r.owner f) f ∧ rs.foldl (fun f r => deepM n r.owner f) f ≤ n.length ∧
    (rs.foldl (fun f r => deepM n r.owner f) f = f ∨ ∃ r ∈ rs, underN r.owner (ancN n (rs.foldl (fun f r => deepM n r.owner f) f)) = true) ∧ ∀ r ∈ rs, ∀ s, s ≤ n.length → underN r.owner (ancN n s) = true → s ≤ rs.foldl (fun f r => deepM n r.owner f) f
  | [], f, h => ⟨Nat.le_refl _, h, .inl rfl, fun r hr => absurd hr (by simp)⟩
  | x :: rs, f, h => by
    obtain ⟨d1, d2, d3, d4⟩ := deepM_spec (w := x.owner) h
    obtain ⟨h1, h2, h3, h4⟩ := depthF_spec n rs (deepM n x.owner f) d2
    rw [List.foldl_cons]
    refine ⟨by omega, h2, ?_, fun r hr s hs hu => ?_⟩
    · rcases h3 with e | ⟨r, hr, e⟩
      · rw [e]
        rcases d3 with e2 | e2
        · exact .inl e2
        · exact .inr ⟨x, by simp, e2⟩
      · exact .inr ⟨r, by simp [hr], e⟩
    · rcases List.mem_cons.1 hr with rfl | hr
      · have := d4 s hs hu; omega
      · exact h4 r hr s hs hu
theorem depthM_spec {o n : Nm} (rs : List Rc) (h : o.length ≤ n.length) : o.length ≤ depthM o rs n ∧ depthM o rs n ≤ n.length ∧ (depthM o rs n = o.length ∨ ∃ r ∈ rs, underN r.owner (ancN n (depthM o rs n)) = true) ∧
    ∀ r ∈ rs, ∀ s, s ≤ n.length → underN r.owner (ancN n s) = true → s ≤ depthM o rs n := depthF_spec n rs _ h
theorem depthM_le {o n : Nm} (rs : List Rc) (h : o.length ≤ n.length) : depthM o rs n ≤ n.length := (depthM_spec rs h).2.1
/-- A depth is known by what it is. -/
theorem depthM_is {o n : Nm} {rs : List Rc} (h : o.length ≤ n.length) {d : Nat} (h1 : o.length ≤ d) (h2 : d ≤ n.length) (h3 : d = o.length ∨ ∃ r ∈ rs, underN r.owner (ancN n d) = true) (h4 : ∀ r ∈ rs, ∀ s, s ≤ n.length → underN r.owner (ancN n s) = true → s ≤ d) : depthM o rs n = d := by
  obtain ⟨e1, e2, e3, e4⟩ := depthM_spec rs h
  apply Nat.le_antisymm
  · rcases e3 with e | ⟨r, hr, e⟩
    · omega
    · exact h4 r hr _ e2 e
  · rcases h3 with e | ⟨r, hr, e⟩
    · omega
    · exact e4 r hr _ h2 e

/-! ### the zone's words -/
def existsM (o : Nm) (rs : List Rc) (n : Nm) : Bool := underN n o && decide (depthM o rs n = n.length)
def encM (o : Nm) (rs : List Rc) (n : Nm) : Nm := if underN n o then ancN n (depthM o rs n) else []
def starM (o : Nm) (rs : List Rc) (n : Nm) : Nm := [42] :: encM o rs n
def sourceM (o : Nm) (rs : List Rc) (n : Nm) : Bool := rs.any fun r => sameN r.owner (starM o rs n)
def pointM (rs : List Rc) (n : Nm) : List Nat := (rs.filter fun r => decide (r.data.ty = 2) && underN n r.owner).map fun r => r.owner.length
def cutM (o : Nm) (rs : List Rc) (n : Nm) : Option Nat := if underN n o then (List.range' (o.length + 1) (n.length - o.length)).find? (fun s => (pointM rs n).contains s) else none
def whereM (o : Nm) (rs : List Rc) (n : Nm) : Int := if underN n o then (match cutM o rs n with | none => 1 | some s => if s = n.length then 2 else 3) else 0
def glueM (rs : List Rc) (h : Nm) : List Dat := ((ofM rs h 1).getD ⟨[], 0, 0, []⟩).data ++ ((ofM rs h 28).getD ⟨[], 0, 0, []⟩).data

theorem existsM_iff {o : Nm} {rs : List Rc} {n : Nm} (h : underN n o = true) : existsM o rs n = true ↔ (n.length = o.length ∨ ∃ r ∈ rs, underN r.owner n = true) := by
  have hl := underN_len h
  unfold existsM
  simp only [h, Bool.true_and, decide_eq_true_eq]
  obtain ⟨e1, e2, e3, e4⟩ := depthM_spec rs hl
  constructor
  · intro e
    rw [e] at e3
    rcases e3 with e3 | ⟨r, hr, e3⟩
    · exact .inl e3
    · rw [ancN_all] at e3; exact .inr ⟨r, hr, e3⟩
  · rintro (e | ⟨r, hr, e⟩)
    · omega
    · have := e4 r hr n.length (Nat.le_refl _) (by rw [ancN_all]; exact e)
      omega
theorem point_has {rs : List Rc} {n : Nm} {s : Nat} : (pointM rs n).contains s = rs.any fun r => decide (r.data.ty = 2) && underN n r.owner && decide (r.owner.length = s) := by
  rw [Bool.eq_iff_iff]
  simp only [pointM, List.contains_iff_mem, List.mem_map, List.mem_filter, List.any_eq_true, Bool.and_eq_true, decide_eq_true_eq]
  constructor
  · rintro ⟨r, ⟨h1, h2, h3⟩, h4⟩; exact ⟨r, h1, ⟨h2, h3⟩, h4⟩
  · rintro ⟨r, h1, ⟨h2, h3⟩, h4⟩; exact ⟨r, ⟨h1, h2, h3⟩, h4⟩
theorem point_anc {rs : List Rc} {n : Nm} {k s : Nat} (hk : k ≤ n.length) (hs : s ≤ k) : (pointM rs (ancN n k)).contains s = (pointM rs n).contains s := by
  rw [point_has, point_has]
  congr 1
  funext r
  by_cases h : r.owner.length = s
  · rw [anc_under hk (by omega)]
  · simp [h]
theorem find_congr {α : Type} {p q : α → Bool} : ∀ (l : List α), (∀ x ∈ l, p x = q x) → l.find? p = l.find? q
  | [], _ => rfl
  | x :: r, h => by
    rw [List.find?_cons, List.find?_cons, h x (by simp), find_congr r fun y hy => h y (by simp [hy])]
theorem find_append {α : Type} {p : α → Bool} (a b : List α) : (a ++ b).find? p = (a.find? p).or (b.find? p) := by
  rw [List.find?_append]
theorem range_split (a k m : Nat) (h : k ≤ m) : List.range' a m = List.range' a k ++ List.range' (a + k) (m - k) := by
  rw [List.range'_append_1]; congr 1; omega
/-- The cut of an ancestor. -/
theorem cut_anc {o : Nm} {rs : List Rc} {n : Nm} {k : Nat} (h : underN n o = true) (h1 : o.length ≤ k) (h2 : k ≤ n.length) : cutM o rs (ancN n k) = (List.range' (o.length + 1) (k - o.length)).find? (fun s => (pointM rs n).contains s) := by
  unfold cutM
  rw [anc_under h2 h1, if_pos h, ancN_len h2]
  refine find_congr _ fun s hs => ?_
  rw [List.mem_range'_1] at hs
  exact point_anc h2 (by omega)
theorem cutM_some {o : Nm} {rs : List Rc} {n : Nm} {s : Nat} (h : cutM o rs n = some s) : underN n o = true ∧ o.length < s ∧ s ≤ n.length := by
  unfold cutM at h
  by_cases hu : underN n o = true
  · rw [if_pos hu] at h
    have := List.mem_of_find?_eq_some h
    rw [List.mem_range'_1] at this
    have hl := underN_len hu
    exact ⟨hu, by omega, by omega⟩
  · rw [if_neg hu] at h; cases h
theorem cut_of_cut {o : Nm} {rs : List Rc} {n : Nm} {s : Nat} (h : cutM o rs n = some s) : cutM o rs (ancN n s) = some s := by
  obtain ⟨hu, h1, h2⟩ := cutM_some h
  rw [cut_anc hu (by omega) h2]
  unfold cutM at h
  rw [if_pos hu, range_split (o.length + 1) (s - o.length) (n.length - o.length) (by omega), find_append] at h
  cases e : (List.range' (o.length + 1) (s - o.length)).find? (fun s => (pointM rs n).contains s) with
  | some x => rw [e] at h; simpa using h
  | none =>
    rw [e] at h
    simp only [Option.none_or] at h
    have := List.mem_of_find?_eq_some h
    rw [List.mem_range'_1] at this
    omega
theorem cut_above {o : Nm} {rs : List Rc} {n : Nm} {s k : Nat} (h : cutM o rs n = some s) (h1 : o.length ≤ k) (hk : k < s) : cutM o rs (ancN n k) = none := by
  obtain ⟨hu, h3, h2⟩ := cutM_some h
  rw [cut_anc hu h1 (by omega)]
  unfold cutM at h
  rw [if_pos hu, range_split (o.length + 1) (k - o.length) (n.length - o.length) (by omega), find_append] at h
  cases e : (List.range' (o.length + 1) (k - o.length)).find? (fun s => (pointM rs n).contains s) with
  | none => rfl
  | some x =>
    rw [e] at h
    simp only [Option.some_or, Option.some.injEq] at h
    have := List.mem_of_find?_eq_some e
    rw [List.mem_range'_1] at this
    omega

/-! ### what a record's writing does not matter to -/
theorem any_canon {p : Rc → Bool} (hp : ∀ a b, compareR a b = 0 → p a = p b) (l : List Rc) : (canonM l).any p = l.any p := by
  rw [Bool.eq_iff_iff, List.any_eq_true, List.any_eq_true]
  constructor
  · rintro ⟨y, hy, h⟩
    obtain ⟨a, ha, h1, _⟩ := canon_covers l y hy
    exact ⟨a, ha, by rw [hp a y h1]; exact h⟩
  · rintro ⟨y, hy, h⟩
    obtain ⟨a, ha, h1, _⟩ := covers_canon l y hy
    exact ⟨a, ha, by rw [hp a y h1]; exact h⟩
theorem cR_owner {a b : Rc} (h : compareR a b = 0) : sameN a.owner b.owner = true := by
  have := (keyR_zero a b).1 (keyR_eq h)
  simp only [belR, belM, Bool.and_eq_true, decide_eq_true_eq] at this
  exact this.2
theorem cR_type {a b : Rc} (h : compareR a b = 0) : a.data.ty = b.data.ty := by
  have := (keyR_zero a b).1 (keyR_eq h)
  simp only [belR, belM, Bool.and_eq_true, decide_eq_true_eq] at this
  exact this.1
/-- Two rows that have the same names and types. -/
def AlikeZ (l m : List Rc) : Prop := (∀ x ∈ l, ∃ y ∈ m, compareR y x = 0) ∧ ∀ x ∈ m, ∃ y ∈ l, compareR y x = 0
theorem AlikeZ.any {l m : List Rc} (h : AlikeZ l m) {p : Rc → Bool} (hp : ∀ a b, compareR a b = 0 → p a = p b) : l.any p = m.any p := by
  rw [Bool.eq_iff_iff, List.any_eq_true, List.any_eq_true]
  constructor
  · rintro ⟨x, hx, e⟩; obtain ⟨y, hy, h1⟩ := h.1 x hx; exact ⟨y, hy, by rw [hp y x h1]; exact e⟩
  · rintro ⟨x, hx, e⟩; obtain ⟨y, hy, h1⟩ := h.2 x hx; exact ⟨y, hy, by rw [hp y x h1]; exact e⟩
theorem alike_canon {l m : List Rc} (h : ∀ x, x ∈ l ↔ x ∈ m) : AlikeZ (canonM l) (canonM m) := by
  constructor
  · intro x hx
    obtain ⟨a, ha, h1, _⟩ := canon_covers l x hx
    obtain ⟨b, hb, h2, _⟩ := covers_canon m a ((h a).1 ha)
    exact ⟨b, hb, cR_eq h2 h1⟩
  · intro x hx
    obtain ⟨a, ha, h1, _⟩ := canon_covers m x hx
    obtain ⟨b, hb, h2, _⟩ := covers_canon l a ((h a).2 ha)
    exact ⟨b, hb, cR_eq h2 h1⟩
theorem AlikeZ.depth {l m : List Rc} (h : AlikeZ l m) {o n : Nm} (hl : o.length ≤ n.length) : depthM o l n = depthM o m n := by
  obtain ⟨e1, e2, e3, e4⟩ := depthM_spec m hl
  refine depthM_is hl e1 e2 ?_ ?_
  · rcases e3 with e | ⟨r, hr, e⟩
    · exact .inl e
    · obtain ⟨y, hy, h1⟩ := h.2 r hr
      exact .inr ⟨y, hy, by rw [sameN_under (cR_owner h1)]; exact e⟩
  · intro r hr s hs hu
    obtain ⟨y, hy, h1⟩ := h.1 r hr
    exact e4 y hy s hs (by rw [sameN_under (cR_owner h1)]; exact hu)
theorem AlikeZ.exists {l m : List Rc} (h : AlikeZ l m) (o n : Nm) : existsM o l n = existsM o m n := by
  unfold existsM
  cases hu : underN n o
  · rfl
  · rw [h.depth (underN_len hu)]
theorem AlikeZ.cut {l m : List Rc} (h : AlikeZ l m) (o n : Nm) : cutM o l n = cutM o m n := by
  unfold cutM
  congr 1
  refine find_congr _ fun s _ => ?_
  rw [point_has, point_has]
  refine h.any fun a b hab => ?_
  rw [cR_type hab, under_sameN (cR_owner hab), show a.owner.length = b.owner.length from by
    have := (sameN_iff _ _).1 (cR_owner hab)
    have := congrArg List.length this
    simpa [foldN] using this]
theorem AlikeZ.where {l m : List Rc} (h : AlikeZ l m) (o n : Nm) : whereM o l n = whereM o m n := by
  unfold whereM; rw [h.cut]

/-! ### what the statements ask -/
theorem exists_up {o : Nm} {rs : List Rc} {n : Nm} {k : Nat} (h : underN n o = true) (he : existsM o rs n = true) (h1 : o.length ≤ k) (h2 : k ≤ n.length) : existsM o rs (ancN n k) = true := by
  rw [existsM_iff (by rw [anc_under h2 h1]; exact h), ancN_len h2]
  rcases (existsM_iff h).1 he with e | ⟨r, hr, e⟩
  · exact .inl (by omega)
  · exact .inr ⟨r, hr, by have := under_up (w := r.owner) (n := n) (k := n.length) (j := k) (by rw [ancN_all]; exact e) h2 (Nat.le_refl _); exact this⟩
theorem where_above {o : Nm} {rs : List Rc} {n : Nm} {s k : Nat} (h : cutM o rs n = some s) (h1 : o.length ≤ k) (hk : k < s) : whereM o rs (ancN n k) = 1 := by
  obtain ⟨hu, h3, h2⟩ := cutM_some h
  unfold whereM
  rw [anc_under (by omega) h1, if_pos hu, cut_above h h1 hk]
theorem where_cut {o : Nm} {rs : List Rc} {n : Nm} {s : Nat} (h : cutM o rs n = some s) : whereM o rs (ancN n s) = 2 := by
  obtain ⟨hu, h3, h2⟩ := cutM_some h
  unfold whereM
  rw [anc_under h2 (by omega), if_pos hu, cut_of_cut h]
  simp only
  rw [ancN_len h2, if_pos rfl]
theorem where_none {o : Nm} {rs : List Rc} {n : Nm} (hu : underN n o = true) (h : cutM o rs n = none) : whereM o rs n = 1 := by
  unfold whereM
  rw [if_pos hu, h]
theorem where_some {o : Nm} {rs : List Rc} {n : Nm} {s : Nat} (h : cutM o rs n = some s) : (whereM o rs n == 2) = sameN n (ancN n s) := by
  obtain ⟨hu, h3, h2⟩ := cutM_some h
  unfold whereM
  rw [if_pos hu, h]
  simp only
  by_cases e : s = n.length
  · rw [if_pos e, e, ancN_all, sameN_refl]; rfl
  · rw [if_neg e, sameN_len (by rw [ancN_len h2]; omega)]; rfl
theorem depth_child {o : Nm} {rs : List Rc} {n : Nm} (x : List UInt8) (h : underN n o = true) (he : existsM o rs n = false) : depthM o rs (x :: n) = depthM o rs n ∧ existsM o rs (x :: n) = false ∧ depthM o rs n < n.length := by
  have hl := underN_len h
  obtain ⟨e1, e2, e3, e4⟩ := depthM_spec rs hl
  have hn : ¬ (n.length = o.length ∨ ∃ r ∈ rs, underN r.owner n = true) := fun hc => by
    have := (existsM_iff h).2 hc
    rw [he] at this; cases this
  have hlt : depthM o rs n < n.length := by
    unfold existsM at he
    simp only [h, Bool.true_and, decide_eq_false_iff_not] at he
    omega
  have hu : underN (x :: n) o = true := underN_trans (by
    have := under_anc (x :: n) n.length
    rwa [ancN_cons (Nat.le_refl _), ancN_all] at this) h
  have hd : depthM o rs (x :: n) = depthM o rs n := by
    refine depthM_is (by simp; omega) e1 (by simp; omega) ?_ ?_
    · rcases e3 with e | ⟨r, hr, e⟩
      · exact .inl e
      · exact .inr ⟨r, hr, by rw [ancN_cons e2]; exact e⟩
    · intro r hr s hs hs2
      by_cases hsn : s ≤ n.length
      · rw [ancN_cons hsn] at hs2
        exact e4 r hr s hsn hs2
      · have := under_up hs2 (j := n.length) (by omega) hs
        rw [ancN_cons (Nat.le_refl _), ancN_all] at this
        exact absurd (.inr ⟨r, hr, this⟩) hn
  refine ⟨hd, ?_, hlt⟩
  unfold existsM
  rw [hd, hu]
  simp; omega
theorem enc_child {o : Nm} {rs : List Rc} {n : Nm} (x : List UInt8) (h : underN n o = true) (he : existsM o rs n = false) : encM o rs (x :: n) = encM o rs n := by
  obtain ⟨h1, h2, h3⟩ := depth_child x h he
  have hu : underN (x :: n) o = true := underN_trans (by
    have := under_anc (x :: n) n.length
    rwa [ancN_cons (Nat.le_refl _), ancN_all] at this) h
  unfold encM
  rw [if_pos h, if_pos hu, h1, ancN_cons (by omega)]
theorem enc_exists {o : Nm} {rs : List Rc} {n : Nm} (h : underN n o = true) : existsM o rs (encM o rs n) = true := by
  have hl := underN_len h
  obtain ⟨e1, e2, e3, e4⟩ := depthM_spec rs hl
  unfold encM
  rw [if_pos h, existsM_iff (by rw [anc_under e2 e1]; exact h), ancN_len e2]
  exact e3
end Go.Proofs.Ytckammgnmgkieaa

/-
  rdata.Compare, rdata.Same.
-/
namespace Go.Proofs.Ytckammgnmgkieaa
set_option maxRecDepth 20000
open Go.RowKit Go.Shelf

/-- What compares the j-th items. -/
def csOf {α : Type} (f : α → α → Int) (a b : List α) (j : Nat) : Int := if h : j < a.length ∧ j < b.length then f (a[j]'h.1) (b[j]'h.2) else 0
theorem csOf_at {α : Type} {f : α → α → Int} {a b : List α} {j : Nat} (h1 : j < a.length) (h2 : j < b.length) : csOf f a b j = f a[j] b[j] := by unfold csOf; rw [dif_pos ⟨h1, h2⟩]

theorem lists_names (v u : Value) (a b : List Nm) (w : World) (hA : NmsAt w v a) (hU : NmsAt w u b) (hs : a.length ≤ 1048576) (hs2 : b.length ≤ 1048576) (hk : ∀ n ∈ a, NmOK n) (hk2 : ∀ n ∈ b, NmOK n) :
    Calls Try.prog 80 #[v, u, .func (.func 25) #[] #[]] w fun e w' => e = .returned (.int .i64 (cmpL compareN a b)) ∧ Below w.heap.size w w' := by
  obtain ⟨vs, h1, hl, h2⟩ := hA
  obtain ⟨us, g1, gl, g2⟩ := hU
  refine (listsNm v u vs us (csOf compareN a b) w h1 g1 (by omega) (by omega) ?_).mono ?_
  · intro W hB j j1 j2
    rw [csOf_at (by omega) (by omega)]
    exact name_Compare _ _ _ _ W ((h2 j j1).below hB).1 ((g2 j j2).below hB).1 (hk _ (List.getElem_mem _)) (hk2 _ (List.getElem_mem _))
  · rintro e w' ⟨⟨r, rfl, hr⟩, hB⟩
    rw [hl, gl] at hr
    exact ⟨by rw [firstC_cmpL (fun j j1 j2 => csOf_at j1 j2) hr], hB⟩
theorem lists_nums (v u : Value) (a b : List Nat) (w : World) (hA : SlAt w v (a.map u32V)) (hU : SlAt w u (b.map u32V)) (hs : a.length ≤ 1048576) (hs2 : b.length ≤ 1048576) :
    Calls Try.prog 81 #[v, u, .func (.func 82) #[] #[]] w fun e w' => e = .returned (.int .i64 (cmpL cmpU a b)) ∧ Below w.heap.size w w' := by
  refine (listsU32 v u _ _ (csOf cmpU a b) w hA hU (by simpa using hs) (by simpa using hs2) ?_).mono ?_
  · intro W hB j j1 j2
    rw [csOf_at (by simpa using j1) (by simpa using j2), List.getElem_map, List.getElem_map]
    refine (cmp_u32 _ _ W).mono ?_
    rintro e w' ⟨rfl, rfl⟩
    exact ⟨rfl, Below.refl _ _⟩
  · rintro e w' ⟨⟨r, rfl, hr⟩, hB⟩
    rw [List.length_map, List.length_map] at hr
    exact ⟨by rw [firstC_cmpL (fun j j1 j2 => csOf_at j1 j2) hr], hB⟩
theorem lists_texts (v u : Value) (a b : Nm) (w : World) (hA : NmAt w v a) (hU : NmAt w u b) (hs : a.length ≤ 1048576) (hs2 : b.length ≤ 1048576) :
    Calls Try.prog 83 #[v, u, .func (.func 84) #[] #[]] w fun e w' => e = .returned (.int .i64 (cmpL orderM a b)) ∧ Below w.heap.size w w' := by
  refine (listsStr v u _ _ (csOf orderM a b) w (nmAt_sl.1 hA) (nmAt_sl.1 hU) (by simpa using hs) (by simpa using hs2) ?_).mono ?_
  · intro W hB j j1 j2
    rw [csOf_at (by simpa using j1) (by simpa using j2), List.getElem_map, List.getElem_map]
    refine (cmp_str _ _ W).mono ?_
    rintro e w' ⟨rfl, rfl⟩
    exact ⟨rfl, Below.refl _ _⟩
  · rintro e w' ⟨⟨r, rfl, hr⟩, hB⟩
    rw [List.length_map, List.length_map] at hr
    exact ⟨by rw [firstC_cmpL (fun j j1 j2 => csOf_at j1 j2) hr], hB⟩
theorem lists_raw (v u : Value) (a b : List UInt8) (w : World) (hA : SlAt w v (a.map bv)) (hU : SlAt w u (b.map bv)) (hs : a.length ≤ 1048576) (hs2 : b.length ≤ 1048576) :
    Calls Try.prog 85 #[v, u, .func (.func 72) #[] #[]] w fun e w' => e = .returned (.int .i64 (cmpL cmpB a b)) ∧ Below w.heap.size w w' := by
  refine (listsU8 v u _ _ (csOf cmpB a b) w hA hU (by simpa using hs) (by simpa using hs2) ?_).mono ?_
  · intro W hB j j1 j2
    rw [csOf_at (by simpa using j1) (by simpa using j2), List.getElem_map, List.getElem_map]
    refine (cmp_u8 _ _ W).mono ?_
    rintro e w' ⟨rfl, rfl⟩
    exact ⟨rfl, Below.refl _ _⟩
  · rintro e w' ⟨⟨r, rfl, hr⟩, hB⟩
    rw [List.length_map, List.length_map] at hr
    exact ⟨by rw [firstC_cmpL (fun j j1 j2 => csOf_at j1 j2) hr], hB⟩

theorem cmp_Or5 (W : World) (a b c d f : Int) :
    Calls Try.prog 24 #[.slice (some ⟨W.heap.size, 0, none⟩) 5 5] (W.alloc (.cells #[.int .i64 a, .int .i64 b, .int .i64 c, .int .i64 d, .int .i64 f] 3)) fun e w' => e = .returned (.int .i64 (orI a (orI b (orI c (orI d f))))) ∧ w' = W.alloc (.cells #[.int .i64 a, .int .i64 b, .int .i64 c, .int .i64 d, .int .i64 f] 3) := by
  refine (cmp_Or W.heap.size 5 [a, b, c, d, f] _ (by simp) ?_).mono ?_
  · intro j h
    have e := cells_new W [.int .i64 a, .int .i64 b, .int .i64 c, .int .i64 d, .int .i64 f] 3 j (.int .i64 ([a, b, c, d, f][j])) (by
      have : ([.int .i64 a, .int .i64 b, .int .i64 c, .int .i64 d, .int .i64 f] : List Value) = [a, b, c, d, f].map (.int .i64) := rfl
      rw [this, List.getElem?_map, List.getElem?_eq_getElem h]; rfl)
    rw [Go.WideShapes.add_plain, Nat.zero_add] at e
    exact e
  · rintro e w' ⟨rfl, rfl⟩
    refine ⟨?_, rfl⟩
    have : (if f = 0 then 0 else f) = f := by split <;> omega
    simp only [firstNZ, orI, this]

theorem keepD {n : Nat} {w W W' : World} {A B : Nat} {vn vu vt vr un uu ut ur : Value} {x y : Int}
    (h : W.cell? ⟨A, 0, none⟩ = some (.int .i64 x) ∧ W.cell? ⟨A, 1, none⟩ = some vn ∧ W.cell? ⟨A, 2, none⟩ = some vu ∧ W.cell? ⟨A, 3, none⟩ = some vt ∧ W.cell? ⟨A, 4, none⟩ = some vr ∧
      W.cell? ⟨B, 0, none⟩ = some (.int .i64 y) ∧ W.cell? ⟨B, 1, none⟩ = some un ∧ W.cell? ⟨B, 2, none⟩ = some uu ∧ W.cell? ⟨B, 3, none⟩ = some ut ∧ W.cell? ⟨B, 4, none⟩ = some ur ∧ Below n w W)
    (hb : Below n W W') (hA : A < n) (hB : B < n) :
    W'.cell? ⟨A, 0, none⟩ = some (.int .i64 x) ∧ W'.cell? ⟨A, 1, none⟩ = some vn ∧ W'.cell? ⟨A, 2, none⟩ = some vu ∧ W'.cell? ⟨A, 3, none⟩ = some vt ∧ W'.cell? ⟨A, 4, none⟩ = some vr ∧
      W'.cell? ⟨B, 0, none⟩ = some (.int .i64 y) ∧ W'.cell? ⟨B, 1, none⟩ = some un ∧ W'.cell? ⟨B, 2, none⟩ = some uu ∧ W'.cell? ⟨B, 3, none⟩ = some ut ∧ W'.cell? ⟨B, 4, none⟩ = some ur ∧ Below n w W' := by
  obtain ⟨a0, a1, a2, a3, a4, b0, b1, b2, b3, b4, hw⟩ := h
  exact ⟨(hb.cell hA).trans a0, (hb.cell hA).trans a1, (hb.cell hA).trans a2, (hb.cell hA).trans a3, (hb.cell hA).trans a4, (hb.cell hB).trans b0, (hb.cell hB).trans b1, (hb.cell hB).trans b2, (hb.cell hB).trans b3, (hb.cell hB).trans b4, hw.trans hb⟩
end Go.Proofs.Ytckammgnmgkieaa

/-
  rdata.Compare, rdata.Same: the walk.
-/
namespace Go.Proofs.Ytckammgnmgkieaa
set_option maxRecDepth 20000
open Go.RowKit Go.Shelf

theorem new_at (w : World) (l : List Value) (T : TypeId) (j : Nat) (v : Value) (h : l[j]? = some v) : (w.alloc (.cells l.toArray T)).cell? ⟨w.heap.size, j, none⟩ = some v := by
  have e := cells_new w l T j v h
  rwa [Go.WideShapes.add_plain, Nat.zero_add] at e
theorem below_drew1 {n : Nat} {a w : World} (h : Below n a w) : Below n a w.drew := h.trans ⟨rfl, rfl, rfl, Nat.le_refl _, fun _ _ => rfl⟩

set_option maxRecDepth 100000 in
set_option maxHeartbeats 8000000 in
theorem rdata_Compare (v u : Value) (a b : Dat) (w : World) (hA : DatAt w v a) (hU : DatAt w u b) (hk : DatOK a) (hk2 : DatOK b) :
    Calls Try.prog 65 #[v, u] w fun e w' => e = .returned (.int .i64 (compareD a b)) ∧ Below w.heap.size w w' := by
  obtain ⟨vn, vu, vt, vr, rfl, a1, a2, a3, a4⟩ := hA
  obtain ⟨un, uu, ut, ur, rfl, b1, b2, b3, b4⟩ := hU
  obtain ⟨_, k1, k2, k3, _, k5, k6⟩ := hk
  obtain ⟨_, l1, l2, l3, _, l5, l6⟩ := hk2
  have hL1 := fun W (hB : Below w.heap.size w W) => lists_names vn un a.names b.names W (a1.below hB) (b1.below hB) k1 l1 k2 l2
  have hL2 := fun W (hB : Below w.heap.size w W) => lists_nums vu uu a.nums b.nums W (a2.below hB) (b2.below hB) k3 l3
  have hL3 := fun W (hB : Below w.heap.size w W) => lists_texts vt ut a.texts b.texts W (a3.below hB) (b3.below hB) k5.1 l5.1
  have hL4 := fun W (hB : Below w.heap.size w W) => lists_raw vr ur a.raw b.raw W (a4.below hB) (b4.below hB) k6 l6
  have hR := Lib.hid (show compareD a b = orI (cmpI a.ty b.ty) (orI (cmpL compareN a.names b.names) (orI (cmpL cmpU a.nums b.nums) (orI (cmpL orderM a.texts b.texts) (cmpL cmpB a.raw b.raw)))) from rfl)
  generalize compareD a b = r at *
  generalize cmpL compareN a.names b.names = q1 at *
  generalize cmpL cmpU a.nums b.nums = q2 at *
  generalize cmpL orderM a.texts b.texts = q3 at *
  generalize cmpL cmpB a.raw b.raw = q4 at *
  have hL0 := fun W => cmp_int a.ty b.ty W
  generalize cmpI a.ty b.ty = q0 at *
  generalize a.ty = x at *
  generalize b.ty = y at *
  have hO := fun W => cmp_Or5 W q0 q1 q2 q3 q4
  have hS0 : ∀ W0, ((w.alloc (.cells #[.int .i64 x, vn, vu, vt, vr] 31)).alloc (.cells #[.int .i64 y, un, uu, ut, ur] 31)) = W0 →
      W0.cell? ⟨w.heap.size, 0, none⟩ = some (.int .i64 x) ∧ W0.cell? ⟨w.heap.size, 1, none⟩ = some vn ∧ W0.cell? ⟨w.heap.size, 2, none⟩ = some vu ∧ W0.cell? ⟨w.heap.size, 3, none⟩ = some vt ∧ W0.cell? ⟨w.heap.size, 4, none⟩ = some vr ∧
      W0.cell? ⟨w.heap.size + 1, 0, none⟩ = some (.int .i64 y) ∧ W0.cell? ⟨w.heap.size + 1, 1, none⟩ = some un ∧ W0.cell? ⟨w.heap.size + 1, 2, none⟩ = some uu ∧ W0.cell? ⟨w.heap.size + 1, 3, none⟩ = some ut ∧ W0.cell? ⟨w.heap.size + 1, 4, none⟩ = some ur ∧ Below w.heap.size w W0 := by
    rintro W0 rfl
    have n1 := new_at w [.int .i64 x, vn, vu, vt, vr] 31
    have n2 := new_at (w.alloc (.cells #[.int .i64 x, vn, vu, vt, vr] 31)) [.int .i64 y, un, uu, ut, ur] 31
    rw [World.size_alloc] at n2
    have hb : Below (w.heap.size + 1) (w.alloc (.cells #[.int .i64 x, vn, vu, vt, vr] 31)) ((w.alloc (.cells #[.int .i64 x, vn, vu, vt, vr] 31)).alloc (.cells #[.int .i64 y, un, uu, ut, ur] 31)) := (Below.refl _ _).alloc (by simp) _
    have hlt : w.heap.size < w.heap.size + 1 := Nat.lt_succ_self _
    refine ⟨(hb.cell hlt).trans (n1 0 _ rfl), (hb.cell hlt).trans (n1 1 _ rfl), (hb.cell hlt).trans (n1 2 _ rfl), (hb.cell hlt).trans (n1 3 _ rfl), (hb.cell hlt).trans (n1 4 _ rfl), n2 0 _ rfl, n2 1 _ rfl, n2 2 _ rfl, n2 3 _ rfl, n2 4 _ rfl, ((Below.refl _ w).alloc (Nat.le_refl _) _).alloc (by simp) _⟩
  have hz0 : ∀ W0, ((w.alloc (.cells #[.int .i64 x, vn, vu, vt, vr] 31)).alloc (.cells #[.int .i64 y, un, uu, ut, ur] 31)) = W0 → W0.heap.size = w.heap.size + 2 := by
    rintro W0 rfl; simp
  have HS0 := Lib.hid hS0; have HZ0 := Lib.hid hz0
  clear hS0 hz0 a1 a2 a3 a4 b1 b2 b3 b4 k1 k2 k3 k5 k6 l1 l2 l3 l5 l6
  go_enter Try.func65, Try.ntmps65
  go_wp2
  generalize hW0 : ((w.alloc (.cells #[.int .i64 x, vn, vu, vt, vr] 31)).alloc (.cells #[.int .i64 y, un, uu, ut, ur] 31)) = W0
  have hS := HS0.out W0 hW0
  have hz := HZ0.out W0 hW0
  clear hW0
  have hS1 : W0.cell? ⟨w.heap.size, 0, none⟩ = some (.int .i64 x) ∧ W0.cell? ⟨w.heap.size, 1, none⟩ = some vn ∧ W0.cell? ⟨w.heap.size, 2, none⟩ = some vu ∧ W0.cell? ⟨w.heap.size, 3, none⟩ = some vt ∧ W0.cell? ⟨w.heap.size, 4, none⟩ = some vr ∧ W0.cell? ⟨w.heap.size + 1, 0, none⟩ = some (.int .i64 y) ∧ W0.cell? ⟨w.heap.size + 1, 1, none⟩ = some un ∧ W0.cell? ⟨w.heap.size + 1, 2, none⟩ = some uu ∧ W0.cell? ⟨w.heap.size + 1, 3, none⟩ = some ut ∧ W0.cell? ⟨w.heap.size + 1, 4, none⟩ = some ur ∧ Below w.heap.size w W0 ∧ w.heap.size + 2 ≤ W0.heap.size := ⟨hS.1, hS.2.1, hS.2.2.1, hS.2.2.2.1, hS.2.2.2.2.1, hS.2.2.2.2.2.1, hS.2.2.2.2.2.2.1, hS.2.2.2.2.2.2.2.1, hS.2.2.2.2.2.2.2.2.1, hS.2.2.2.2.2.2.2.2.2.1, hS.2.2.2.2.2.2.2.2.2.2, by omega⟩
  have KD : ∀ W W' : World, (W.cell? ⟨w.heap.size, 0, none⟩ = some (.int .i64 x) ∧ W.cell? ⟨w.heap.size, 1, none⟩ = some vn ∧ W.cell? ⟨w.heap.size, 2, none⟩ = some vu ∧ W.cell? ⟨w.heap.size, 3, none⟩ = some vt ∧ W.cell? ⟨w.heap.size, 4, none⟩ = some vr ∧ W.cell? ⟨w.heap.size + 1, 0, none⟩ = some (.int .i64 y) ∧ W.cell? ⟨w.heap.size + 1, 1, none⟩ = some un ∧ W.cell? ⟨w.heap.size + 1, 2, none⟩ = some uu ∧ W.cell? ⟨w.heap.size + 1, 3, none⟩ = some ut ∧ W.cell? ⟨w.heap.size + 1, 4, none⟩ = some ur ∧ Below w.heap.size w W ∧ w.heap.size + 2 ≤ W.heap.size) → Below (w.heap.size + 2) W W' → (W'.cell? ⟨w.heap.size, 0, none⟩ = some (.int .i64 x) ∧ W'.cell? ⟨w.heap.size, 1, none⟩ = some vn ∧ W'.cell? ⟨w.heap.size, 2, none⟩ = some vu ∧ W'.cell? ⟨w.heap.size, 3, none⟩ = some vt ∧ W'.cell? ⟨w.heap.size, 4, none⟩ = some vr ∧ W'.cell? ⟨w.heap.size + 1, 0, none⟩ = some (.int .i64 y) ∧ W'.cell? ⟨w.heap.size + 1, 1, none⟩ = some un ∧ W'.cell? ⟨w.heap.size + 1, 2, none⟩ = some uu ∧ W'.cell? ⟨w.heap.size + 1, 3, none⟩ = some ut ∧ W'.cell? ⟨w.heap.size + 1, 4, none⟩ = some ur ∧ Below w.heap.size w W' ∧ w.heap.size + 2 ≤ W'.heap.size) := by
    rintro W W' ⟨a0, a1, a2, a3, a4, b0, b1, b2, b3, b4, hw, hsz⟩ hb
    have hA : w.heap.size < w.heap.size + 2 := by omega
    have hB : w.heap.size + 1 < w.heap.size + 2 := by omega
    exact ⟨(hb.cell hA).trans a0, (hb.cell hA).trans a1, (hb.cell hA).trans a2, (hb.cell hA).trans a3, (hb.cell hA).trans a4, (hb.cell hB).trans b0, (hb.cell hB).trans b1, (hb.cell hB).trans b2, (hb.cell hB).trans b3, (hb.cell hB).trans b4, hw.trans (hb.mono (by omega)), Nat.le_trans hsz hb.size⟩
  have KS := Lib.hid (fun (W W' : World) (h : W.cell? ⟨w.heap.size, 0, none⟩ = some (.int .i64 x) ∧ W.cell? ⟨w.heap.size, 1, none⟩ = some vn ∧ W.cell? ⟨w.heap.size, 2, none⟩ = some vu ∧ W.cell? ⟨w.heap.size, 3, none⟩ = some vt ∧ W.cell? ⟨w.heap.size, 4, none⟩ = some vr ∧ W.cell? ⟨w.heap.size + 1, 0, none⟩ = some (.int .i64 y) ∧ W.cell? ⟨w.heap.size + 1, 1, none⟩ = some un ∧ W.cell? ⟨w.heap.size + 1, 2, none⟩ = some uu ∧ W.cell? ⟨w.heap.size + 1, 3, none⟩ = some ut ∧ W.cell? ⟨w.heap.size + 1, 4, none⟩ = some ur ∧ Below w.heap.size w W ∧ w.heap.size + 2 ≤ W.heap.size) (hb : Below W.heap.size W W') => KD W W' h (hb.mono h.2.2.2.2.2.2.2.2.2.2.2))
  have KA := Lib.hid (fun (W : World) (o : Obj) (h : W.cell? ⟨w.heap.size, 0, none⟩ = some (.int .i64 x) ∧ W.cell? ⟨w.heap.size, 1, none⟩ = some vn ∧ W.cell? ⟨w.heap.size, 2, none⟩ = some vu ∧ W.cell? ⟨w.heap.size, 3, none⟩ = some vt ∧ W.cell? ⟨w.heap.size, 4, none⟩ = some vr ∧ W.cell? ⟨w.heap.size + 1, 0, none⟩ = some (.int .i64 y) ∧ W.cell? ⟨w.heap.size + 1, 1, none⟩ = some un ∧ W.cell? ⟨w.heap.size + 1, 2, none⟩ = some uu ∧ W.cell? ⟨w.heap.size + 1, 3, none⟩ = some ut ∧ W.cell? ⟨w.heap.size + 1, 4, none⟩ = some ur ∧ Below w.heap.size w W ∧ w.heap.size + 2 ≤ W.heap.size) => KD W (W.alloc o) h ((Below.refl _ W).alloc h.2.2.2.2.2.2.2.2.2.2.2 o))
  have KR := Lib.hid (fun (W : World) (h : W.cell? ⟨w.heap.size, 0, none⟩ = some (.int .i64 x) ∧ W.cell? ⟨w.heap.size, 1, none⟩ = some vn ∧ W.cell? ⟨w.heap.size, 2, none⟩ = some vu ∧ W.cell? ⟨w.heap.size, 3, none⟩ = some vt ∧ W.cell? ⟨w.heap.size, 4, none⟩ = some vr ∧ W.cell? ⟨w.heap.size + 1, 0, none⟩ = some (.int .i64 y) ∧ W.cell? ⟨w.heap.size + 1, 1, none⟩ = some un ∧ W.cell? ⟨w.heap.size + 1, 2, none⟩ = some uu ∧ W.cell? ⟨w.heap.size + 1, 3, none⟩ = some ut ∧ W.cell? ⟨w.heap.size + 1, 4, none⟩ = some ur ∧ Below w.heap.size w W ∧ w.heap.size + 2 ≤ W.heap.size) => KD W W.drew h (below_drew1 (Below.refl _ W)))
  have HL1 := Lib.hid (fun (W : World) (h : W.cell? ⟨w.heap.size, 0, none⟩ = some (.int .i64 x) ∧ W.cell? ⟨w.heap.size, 1, none⟩ = some vn ∧ W.cell? ⟨w.heap.size, 2, none⟩ = some vu ∧ W.cell? ⟨w.heap.size, 3, none⟩ = some vt ∧ W.cell? ⟨w.heap.size, 4, none⟩ = some vr ∧ W.cell? ⟨w.heap.size + 1, 0, none⟩ = some (.int .i64 y) ∧ W.cell? ⟨w.heap.size + 1, 1, none⟩ = some un ∧ W.cell? ⟨w.heap.size + 1, 2, none⟩ = some uu ∧ W.cell? ⟨w.heap.size + 1, 3, none⟩ = some ut ∧ W.cell? ⟨w.heap.size + 1, 4, none⟩ = some ur ∧ Below w.heap.size w W ∧ w.heap.size + 2 ≤ W.heap.size) => hL1 W h.2.2.2.2.2.2.2.2.2.2.1)
  have HL2 := Lib.hid (fun (W : World) (h : W.cell? ⟨w.heap.size, 0, none⟩ = some (.int .i64 x) ∧ W.cell? ⟨w.heap.size, 1, none⟩ = some vn ∧ W.cell? ⟨w.heap.size, 2, none⟩ = some vu ∧ W.cell? ⟨w.heap.size, 3, none⟩ = some vt ∧ W.cell? ⟨w.heap.size, 4, none⟩ = some vr ∧ W.cell? ⟨w.heap.size + 1, 0, none⟩ = some (.int .i64 y) ∧ W.cell? ⟨w.heap.size + 1, 1, none⟩ = some un ∧ W.cell? ⟨w.heap.size + 1, 2, none⟩ = some uu ∧ W.cell? ⟨w.heap.size + 1, 3, none⟩ = some ut ∧ W.cell? ⟨w.heap.size + 1, 4, none⟩ = some ur ∧ Below w.heap.size w W ∧ w.heap.size + 2 ≤ W.heap.size) => hL2 W h.2.2.2.2.2.2.2.2.2.2.1)
  have HL3 := Lib.hid (fun (W : World) (h : W.cell? ⟨w.heap.size, 0, none⟩ = some (.int .i64 x) ∧ W.cell? ⟨w.heap.size, 1, none⟩ = some vn ∧ W.cell? ⟨w.heap.size, 2, none⟩ = some vu ∧ W.cell? ⟨w.heap.size, 3, none⟩ = some vt ∧ W.cell? ⟨w.heap.size, 4, none⟩ = some vr ∧ W.cell? ⟨w.heap.size + 1, 0, none⟩ = some (.int .i64 y) ∧ W.cell? ⟨w.heap.size + 1, 1, none⟩ = some un ∧ W.cell? ⟨w.heap.size + 1, 2, none⟩ = some uu ∧ W.cell? ⟨w.heap.size + 1, 3, none⟩ = some ut ∧ W.cell? ⟨w.heap.size + 1, 4, none⟩ = some ur ∧ Below w.heap.size w W ∧ w.heap.size + 2 ≤ W.heap.size) => hL3 W h.2.2.2.2.2.2.2.2.2.2.1)
  have HL4 := Lib.hid (fun (W : World) (h : W.cell? ⟨w.heap.size, 0, none⟩ = some (.int .i64 x) ∧ W.cell? ⟨w.heap.size, 1, none⟩ = some vn ∧ W.cell? ⟨w.heap.size, 2, none⟩ = some vu ∧ W.cell? ⟨w.heap.size, 3, none⟩ = some vt ∧ W.cell? ⟨w.heap.size, 4, none⟩ = some vr ∧ W.cell? ⟨w.heap.size + 1, 0, none⟩ = some (.int .i64 y) ∧ W.cell? ⟨w.heap.size + 1, 1, none⟩ = some un ∧ W.cell? ⟨w.heap.size + 1, 2, none⟩ = some uu ∧ W.cell? ⟨w.heap.size + 1, 3, none⟩ = some ut ∧ W.cell? ⟨w.heap.size + 1, 4, none⟩ = some ur ∧ Below w.heap.size w W ∧ w.heap.size + 2 ≤ W.heap.size) => hL4 W h.2.2.2.2.2.2.2.2.2.2.1)
  have HL0 := Lib.hid hL0; have HO := Lib.hid hO
  clear hS hz KD hL1 hL2 hL3 hL4 hL0 hO HS0 HZ0
  go_region_held3 (fun W' => W'.cell? ⟨w.heap.size, 0, none⟩ = some (.int .i64 x) ∧ W'.cell? ⟨w.heap.size, 1, none⟩ = some vn ∧ W'.cell? ⟨w.heap.size, 2, none⟩ = some vu ∧ W'.cell? ⟨w.heap.size, 3, none⟩ = some vt ∧ W'.cell? ⟨w.heap.size, 4, none⟩ = some vr ∧ W'.cell? ⟨w.heap.size + 1, 0, none⟩ = some (.int .i64 y) ∧ W'.cell? ⟨w.heap.size + 1, 1, none⟩ = some un ∧ W'.cell? ⟨w.heap.size + 1, 2, none⟩ = some uu ∧ W'.cell? ⟨w.heap.size + 1, 3, none⟩ = some ut ∧ W'.cell? ⟨w.heap.size + 1, 4, none⟩ = some ur ∧ Below w.heap.size w W' ∧ w.heap.size + 2 ≤ W'.heap.size) (first | assumption | exact KR.out _ hS1 | exact KA.out _ _ (by assumption)) (first | ((with_reducible refine (HL0.out _).mono ?_); rintro e w2 ⟨rfl, rfl⟩) | ((with_reducible refine (HL1.out _ (by assumption)).mono ?_); rintro e w2 ⟨rfl, hb2⟩; have hS2 := KS.out _ _ (by assumption) hb2) | ((with_reducible refine (HL2.out _ (by assumption)).mono ?_); rintro e w2 ⟨rfl, hb2⟩; have hS2 := KS.out _ _ (by assumption) hb2) | ((with_reducible refine (HL3.out _ (by assumption)).mono ?_); rintro e w2 ⟨rfl, hb2⟩; have hS2 := KS.out _ _ (by assumption) hb2) | ((with_reducible refine (HL4.out _ (by assumption)).mono ?_); rintro e w2 ⟨rfl, hb2⟩; have hS2 := KS.out _ _ (by assumption) hb2) | ((with_reducible refine (HO.out _).mono ?_); rintro e w2 ⟨rfl, rfl⟩))
  rename_i hSe
  go_wp2
  go_ret
  exact ⟨by rw [hR.out]; rfl, hSe.2.2.2.2.2.2.2.2.2.2.1⟩

set_option maxRecDepth 100000 in
set_option maxHeartbeats 4000000 in
theorem rdata_Same (v u : Value) (a b : Dat) (w : World) (hA : DatAt w v a) (hU : DatAt w u b) (hk : DatOK a) (hk2 : DatOK b) :
    Calls Try.prog 66 #[v, u] w fun e w' => e = .returned (.bool (compareD a b == 0)) ∧ Below w.heap.size w w' := by
  obtain ⟨vn, vu, vt, vr, rfl, a1, a2, a3, a4⟩ := id hA
  obtain ⟨un, uu, ut, ur, rfl, b1, b2, b3, b4⟩ := id hU
  have hC := fun W (hB : Below w.heap.size w W) => rdata_Compare _ _ a b W (hA.below hB) (hU.below hB) hk hk2
  have hb0 : Below w.heap.size w ((w.alloc (.cells #[.int .i64 a.ty, vn, vu, vt, vr] 31)).alloc (.cells #[.int .i64 b.ty, un, uu, ut, ur] 31)) := ((Below.refl _ w).alloc (Nat.le_refl _) _).alloc (by simp) _
  have hCz := hC _ hb0
  have hB0 := Lib.hid hb0
  generalize compareD a b = r at *
  clear hA hU hC a1 a2 a3 a4 b1 b2 b3 b4 hk hk2 hb0
  go_enter Try.func66, Try.ntmps66
  go_wp2_with (go_at_call 65; refine hCz.mono ?_; rintro e w2 ⟨rfl, hb2⟩)
  go_ret
  exact ⟨rfl, hB0.out.trans (hb2.mono hB0.out.size)⟩
end Go.Proofs.Ytckammgnmgkieaa

