/-
  The document's sets (ref.Sets, ref.Of, ref.TypesOf), plain: they are the program's.
-/
import Derived.Test.YtckammgnmgkieaaMQ12
import Derived.Test.YtckammgnmgkieaaMQ16
import Derived.Test.YtckammgnmgkieaaMQ41
import Derived.Test.YtckammgnmgkieaaMQ14
import Derived.Test.YtckammgnmgkieaaMQ09
namespace Go.Proofs.Ytckammgnmgkieaa
set_option maxRecDepth 20000
set_option linter.unusedVariables false
def joinS (s : St) (r : Rc) : St := ⟨s.owner, s.ty, minT s.ttl r.ttl, s.data ++ [r.data]⟩
def newS (r : Rc) : St := ⟨r.owner, r.data.ty, r.ttl, [r.data]⟩
def hitS (s : St) (r : Rc) : Bool := sameN s.owner r.owner && decide (s.ty = r.data.ty)
def stepS (out : List St) (r : Rc) : List St := match out.getLast? with
  | some s => if hitS s r then out.dropLast ++ [joinS s r] else out ++ [newS r]
  | none => out ++ [newS r]
def refSets (c : List Rc) : List St := c.foldl stepS []
theorem stepS_snoc (pre : List St) (s : St) (r : Rc) : stepS (pre ++ [s]) r = if hitS s r then pre ++ [joinS s r] else pre ++ [s] ++ [newS r] := by
  unfold stepS
  simp
theorem hitS_bel {s : St} {y r : Rc} (h1 : s.owner = y.owner) (h2 : s.ty = y.data.ty) : hitS s r = belR y r := by
  unfold hitS belR belM
  rw [h1, h2, sameN_symm, Bool.and_comm]
  congr 1
  exact decide_eq_decide.2 ⟨Eq.symm, Eq.symm⟩
theorem foldl_joinS : ∀ (l : List Rc) (s : St), l.foldl joinS s = ⟨s.owner, s.ty, leastM s.ttl l, s.data ++ l.map Rc.data⟩
  | [], s => by simp [leastM]
  | x :: r, s => by
    rw [List.foldl_cons, foldl_joinS r]
    simp [joinS, leastM]
theorem refSets_go : ∀ (n : Nat) (r : List Rc), r.length ≤ n → ∀ (pre : List St) (s : St) (y : Rc), s.owner = y.owner → s.ty = y.data.ty →
    r.foldl stepS (pre ++ [s]) = pre ++ (r.takeWhile (belR y)).foldl joinS s :: setsM (r.dropWhile (belR y))
  | 0, r, h, pre, s, y, h1, h2 => by
    obtain rfl : r = [] := List.eq_nil_of_length_eq_zero (by omega)
    simp [setsM_nil]
  | n + 1, [], h, pre, s, y, h1, h2 => by simp [setsM_nil]
  | n + 1, x :: r, h, pre, s, y, h1, h2 => by
    rw [List.foldl_cons, stepS_snoc, hitS_bel h1 h2]
    by_cases hb : belR y x = true
    · rw [if_pos hb, refSets_go n r (by simp at h; omega) pre (joinS s x) y h1 h2, List.takeWhile_cons_of_pos hb, List.dropWhile_cons_of_pos hb, List.foldl_cons]
    · rw [if_neg hb, refSets_go n r (by simp at h; omega) (pre ++ [s]) (newS x) x rfl rfl, List.takeWhile_cons_of_neg hb, List.dropWhile_cons_of_neg hb, setsM_cons, foldl_joinS]
      simp [newS, stR]
theorem refSets_eq (c : List Rc) : refSets c = setsM c := by
  cases c with
  | nil => rfl
  | cons y r =>
    have h : refSets (y :: r) = r.foldl stepS ([] ++ [newS y]) := rfl
    rw [h, refSets_go r.length r (Nat.le_refl _) [] (newS y) y rfl rfl, setsM_cons, foldl_joinS]
    simp [newS, stR]
/-- Each record is of some set. -/
theorem sets_has : ∀ (n : Nat) (c : List Rc), c.length ≤ n → ∀ y ∈ c, ∃ s ∈ setsM c, belM s.owner s.ty y = true
  | 0, c, h, y, hy => by
    obtain rfl : c = [] := List.eq_nil_of_length_eq_zero (by omega)
    cases hy
  | n + 1, [], h, y, hy => by cases hy
  | n + 1, x :: r, h, y, hy => by
    rw [setsM_cons]
    by_cases hb : y = x ∨ y ∈ r.takeWhile (belR x)
    · refine ⟨_, List.mem_cons_self, ?_⟩
      rcases hb with rfl | hb
      · exact belR_refl y
      · exact takeWhile_all r y hb
    · have hd : y ∈ r.dropWhile (belR x) := by
        rcases List.mem_cons.1 hy with e | e
        · exact absurd (.inl e) hb
        · rw [← List.takeWhile_append_dropWhile (p := belR x) (l := r)] at e
          rcases List.mem_append.1 e with e | e
          · exact absurd (.inr e) hb
          · exact e
      have hl : (r.dropWhile (belR x)).length ≤ n := by
        have := (List.dropWhile_sublist (p := belR x) (l := r)).length_le
        simp at h; omega
      obtain ⟨s, hs, e⟩ := sets_has n _ hl y hd
      exact ⟨s, List.mem_cons_of_mem _ hs, e⟩
theorem belM_same {a b : Nm} (h : sameN a b = true) (t : Int) (r : Rc) : belM a t r = belM b t r := by
  unfold belM
  congr 1
  rw [Bool.eq_iff_iff, sameN_iff, sameN_iff, (sameN_iff _ _).1 h]
theorem ofM_find (l : List Rc) (o : Nm) (t : Int) : ofM l o t = (setsM (canonM l)).find? fun s => decide (s.ty = t) && sameN s.owner o := by
  unfold ofM
  rw [canonM_filter]
  cases hf : (setsM (canonM l)).find? fun s => decide (s.ty = t) && sameN s.owner o with
  | none =>
    have hn : (canonM l).filter (belM o t) = [] := by
      rw [List.filter_eq_nil_iff]
      intro y hy hb
      obtain ⟨s, hs, e⟩ := sets_has _ _ (Nat.le_refl _) y hy
      have := List.find?_eq_none.1 hf s hs
      refine this ?_
      simp only [belM, Bool.and_eq_true, decide_eq_true_eq] at hb e ⊢
      refine ⟨by rw [← e.1, hb.1], ?_⟩
      exact sameN_trans (by rw [sameN_symm]; exact e.2) hb.2
    rw [hn]; rfl
  | some s =>
    have hs := List.mem_of_find?_eq_some hf
    have hp := List.find?_some hf
    simp only [Bool.and_eq_true, decide_eq_true_eq] at hp
    obtain ⟨y, r, e1, e2, e3⟩ := sets_filter _ _ (Nat.le_refl _) (canonM_can l).up s hs
    have e4 : (canonM l).filter (belM o t) = y :: r := by
      rw [← e3]
      refine List.filter_congr fun x _ => ?_
      rw [hp.1, belM_same hp.2]
    rw [e4, setsM_all, e1]; rfl
    intro z hz
    have hz' : z ∈ (canonM l).filter (belM s.owner s.ty) := by rw [e3]; exact List.mem_cons_of_mem _ hz
    have h2 := (List.mem_filter.1 hz').2
    rw [e1] at h2
    exact h2
end Go.Proofs.Ytckammgnmgkieaa

/-
  Where two names part, from the root's side on (plain facts).
-/
namespace Go.Proofs.Ytckammgnmgkieaa
set_option maxRecDepth 20000
open Go.RowKit Go.Shelf

theorem cmpR_get : ∀ (k : Nat) (p q : Nm), k ≤ p.length → k ≤ q.length → (∀ i (h1 : i < p.length) (h2 : i < q.length), i < k → compareM p[i] q[i] = 0) → cmpR p q = cmpR (p.drop k) (q.drop k)
  | 0, _, _ => by intro _ _ _; rfl
  | k + 1, [], _ => by intro h _ _; simp at h
  | k + 1, _ :: _, [] => by intro _ h _; simp at h
  | k + 1, x :: r, y :: t => by
    intro h1 h2 h
    have h0 : compareM x y = 0 := h 0 (by simp) (by simp) (by omega)
    rw [cmpR, if_pos h0]
    exact cmpR_get k r t (by simpa using h1) (by simpa using h2) (fun i a b c => h (i + 1) (by simpa using a) (by simpa using b) (by omega))
theorem sharedR_get : ∀ (k : Nat) (p q : Nm), k ≤ p.length → k ≤ q.length → (∀ i (h1 : i < p.length) (h2 : i < q.length), i < k → compareM p[i] q[i] = 0) → sharedR p q = k + sharedR (p.drop k) (q.drop k)
  | 0, _, _ => by intro _ _ _; simp
  | k + 1, [], _ => by intro h _ _; simp at h
  | k + 1, _ :: _, [] => by intro _ h _; simp at h
  | k + 1, x :: r, y :: t => by
    intro h1 h2 h
    have h0 : compareM x y = 0 := h 0 (by simp) (by simp) (by omega)
    rw [sharedR, if_pos h0]
    have := sharedR_get k r t (by simpa using h1) (by simpa using h2) (fun i a b c => h (i + 1) (by simpa using a) (by simpa using b) (by omega))
    simp only [List.drop_succ_cons]; omega

variable {xs ys : Nm}
/-- All that is at hand, from x on, is alike. -/
theorem rev_alike {m : Nat} (hm : m ≤ xs.length) (_hy : xs.length ≤ m + ys.length) (h : ∀ j (h1 : j < xs.length) (h2 : xs.length ≤ j + ys.length), m ≤ j → compareM xs[j] (ys[j + ys.length - xs.length]'(by omega)) = 0) :
    ∀ i (h1 : i < xs.reverse.length) (h2 : i < ys.reverse.length), i < xs.length - m → compareM xs.reverse[i] ys.reverse[i] = 0 := by
  intro i h1 h2 hi
  simp only [List.length_reverse] at h1 h2
  have := h (xs.length - 1 - i) (by omega) (by omega) (by omega)
  simp only [List.getElem_reverse]
  have e : ys.length - 1 - i = xs.length - 1 - i + ys.length - xs.length := by omega
  simp only [e]
  exact this
theorem compareN_even (h : ∀ j (h1 : j < xs.length) (h2 : xs.length ≤ j + ys.length), compareM xs[j] (ys[j + ys.length - xs.length]'(by omega)) = 0) :
    compareN xs ys = cmpI xs.length ys.length := by
  have e := cmpR_get (xs.length - (xs.length - ys.length)) xs.reverse ys.reverse (by simp) (by simp; omega) (rev_alike (by omega) (by omega) (fun j h1 h2 _ => h j h1 h2))
  unfold compareN; rw [e]
  rcases Nat.lt_trichotomy xs.length ys.length with hl | hl | hl
  · have e1 : xs.reverse.drop (xs.length - (xs.length - ys.length)) = [] := List.drop_eq_nil_of_le (by simp; omega)
    rw [e1]
    have e2 : ys.reverse.drop (xs.length - (xs.length - ys.length)) ≠ [] := by intro q; have := congrArg List.length q; simp at this; omega
    cases hq : ys.reverse.drop (xs.length - (xs.length - ys.length)) with
    | nil => exact absurd hq e2
    | cons y t => unfold cmpI; rw [if_pos (by omega)]; rfl
  · have e1 : xs.reverse.drop (xs.length - (xs.length - ys.length)) = [] := List.drop_eq_nil_of_le (by simp; omega)
    have e2 : ys.reverse.drop (xs.length - (xs.length - ys.length)) = [] := List.drop_eq_nil_of_le (by simp; omega)
    rw [e1, e2]; unfold cmpI; rw [if_neg (by omega), if_neg (by omega)]; rfl
  · have e1 : ys.reverse.drop (xs.length - (xs.length - ys.length)) = [] := List.drop_eq_nil_of_le (by simp; omega)
    rw [e1]
    have e2 : xs.reverse.drop (xs.length - (xs.length - ys.length)) ≠ [] := by intro q; have := congrArg List.length q; simp at this; omega
    cases hq : xs.reverse.drop (xs.length - (xs.length - ys.length)) with
    | nil => exact absurd hq e2
    | cons y t => unfold cmpI; rw [if_neg (by omega), if_pos (by omega)]; rfl
theorem rev_drop {l : Nm} {x : Nat} (h : x < l.length) : ∃ t, l.reverse.drop (l.length - 1 - x) = l[x] :: t := by
  refine ⟨l.reverse.drop (l.length - 1 - x + 1), ?_⟩
  rw [List.drop_eq_getElem_cons (by simp; omega)]
  congr 1
  simp only [List.getElem_reverse]
  congr 1; omega
theorem compareN_at (x : Nat) (h1 : x < xs.length) (h2 : xs.length ≤ x + ys.length) (hne : compareM xs[x] (ys[x + ys.length - xs.length]'(by omega)) ≠ 0)
    (h : ∀ j (h1 : j < xs.length) (h2 : xs.length ≤ j + ys.length), x < j → compareM xs[j] (ys[j + ys.length - xs.length]'(by omega)) = 0) :
    compareN xs ys = compareM xs[x] (ys[x + ys.length - xs.length]'(by omega)) := by
  have e := cmpR_get (xs.length - (x + 1)) xs.reverse ys.reverse (by simp) (by simp; omega) (rev_alike (by omega) (by omega) (fun j a b c => h j a b (by omega)))
  unfold compareN; rw [e]
  obtain ⟨t, ht⟩ := rev_drop h1
  obtain ⟨r, hr⟩ := rev_drop (l := ys) (x := x + ys.length - xs.length) (by omega)
  rw [show xs.length - (x + 1) = xs.length - 1 - x by omega, ht, show xs.length - 1 - x = ys.length - 1 - (x + ys.length - xs.length) by omega, hr, cmpR, if_neg hne]
theorem shared_at (x : Nat) (h1 : x < xs.length) (h2 : xs.length ≤ x + 1 + ys.length) (hne : ∀ h2 : xs.length ≤ x + ys.length, compareM xs[x] (ys[x + ys.length - xs.length]'(by omega)) ≠ 0)
    (h : ∀ j (h1 : j < xs.length) (h2 : xs.length ≤ j + ys.length), x < j → compareM xs[j] (ys[j + ys.length - xs.length]'(by omega)) = 0) :
    sharedR xs.reverse ys.reverse = xs.length - 1 - x := by
  have e := sharedR_get (xs.length - (x + 1)) xs.reverse ys.reverse (by simp) (by simp; omega) (rev_alike (by omega) (by omega) (fun j a b c => h j a b (by omega)))
  rw [e]
  obtain ⟨t, ht⟩ := rev_drop h1
  rw [show xs.length - (x + 1) = xs.length - 1 - x by omega, ht]
  by_cases hy : xs.length ≤ x + ys.length
  · obtain ⟨r, hr⟩ := rev_drop (l := ys) (x := x + ys.length - xs.length) (by omega)
    rw [show ys.reverse.drop (xs.length - 1 - x) = ys[x + ys.length - xs.length] :: r by rw [← hr]; congr 1; omega, sharedR, if_neg (hne hy)]; rfl
  · rw [show ys.reverse.drop (xs.length - 1 - x) = [] from List.drop_eq_nil_of_le (by simp; omega)]; rfl
theorem shared_all (h2 : xs.length ≤ ys.length) (h : ∀ j (h1 : j < xs.length) (h2 : xs.length ≤ j + ys.length), compareM xs[j] (ys[j + ys.length - xs.length]'(by omega)) = 0) :
    sharedR xs.reverse ys.reverse = xs.length := by
  have e := sharedR_get xs.length xs.reverse ys.reverse (by simp) (by simp; omega) (by
    have := rev_alike (xs := xs) (ys := ys) (m := 0) (by omega) (by omega) (fun j a b c => h j a b)
    simpa using this)
  rw [e, List.drop_eq_nil_of_le (by simp)]; simp [sharedR]

/-- What has come, from the root's side on, up to x. -/
theorem rev_prefix {n : Nat} {p : List (Fin n)} {x : Fin n} (h : (p ++ [x]) <+: (List.finRange n).reverse) : p.length + x.val + 1 = n ∧ ∀ j : Fin n, x.val < j.val → j ∈ p := by
  have hl : p.length + 1 ≤ n := by have := h.length_le; simpa using this
  have hg : ∀ i (h1 : i < p.length + 1), (p ++ [x])[i]'(by simpa using h1) = ⟨n - 1 - i, by omega⟩ := fun i h1 => by
    have := h.getElem (i := i) (by simpa using h1)
    rw [this]; simp only [List.getElem_reverse, List.length_finRange, List.getElem_finRange]
    rfl
  have hx := hg p.length (by omega)
  simp only [List.getElem_concat_length] at hx
  have hxv : x.val = n - 1 - p.length := by rw [hx]
  refine ⟨by omega, fun j hj => ?_⟩
  have hlt : n - 1 - j.val < p.length := by have := j.isLt; omega
  have := hg (n - 1 - j.val) (by omega)
  rw [List.getElem_append_left hlt] at this
  have e : p[n - 1 - j.val] = j := by rw [this]; apply Fin.ext; simp; have := j.isLt; omega
  exact e ▸ List.getElem_mem hlt
/-- Label j of the first name is alike the label of the second that lies as deep. -/
def AlikeAt (xs ys : Nm) (j : Fin xs.length) : Prop := ∃ d, ∃ h : d < ys.length, j.val + ys.length = d + xs.length ∧ compareM xs[j] ys[d] = 0
theorem AlikeAt.eq {j : Fin xs.length} (h : AlikeAt xs ys j) : xs.length ≤ j.val + ys.length ∧ ∀ h : j.val + ys.length - xs.length < ys.length, compareM xs[j] ys[j.val + ys.length - xs.length] = 0 := by
  obtain ⟨d, hd, e, h0⟩ := h
  obtain rfl : d = j.val + ys.length - xs.length := by omega
  exact ⟨by omega, fun _ => h0⟩
theorem of_compareM {a b : List UInt8} : sameM a b = true ↔ compareM a b = 0 := by rw [sameM_eq, decide_eq_true_iff]

end Go.Proofs.Ytckammgnmgkieaa

/-
  Contract of name.Common.
-/
namespace Go.Proofs.Ytckammgnmgkieaa
set_option maxRecDepth 20000
open Go.RowKit Go.Shelf

section
attribute [local go_sem] Oper.semAt_some
end
end Go.Proofs.Ytckammgnmgkieaa

/-
  Contract of name.Compare.
-/
namespace Go.Proofs.Ytckammgnmgkieaa
set_option maxRecDepth 20000
open Go.RowKit Go.Shelf

section
attribute [local go_sem] Oper.semAt_some
set_option maxRecDepth 100000 in
set_option maxHeartbeats 4000000 in
theorem name_Compare (v u : Value) (xs ys : Nm) (w : World) (hA : StrsAt w v xs) (hU : StrsAt w u ys) (hk : NmOK xs) (hk2 : NmOK ys) :
    Calls Try.prog 25 #[v, u] w fun e w' => e = .returned (.int .i64 (compareN xs ys)) ∧ Below w.heap.size w w' := by
  obtain ⟨a, c, rfl, _⟩ := id hA
  obtain ⟨a2, c2, rfl, _⟩ := id hU
  have hl1 := hk.1
  have hl2 := hk2.1
  refine (callsIn_wide (n := 5)).1 ?_
  refine callsIn_of_wp_marks Try.func25 rfl trivial ?_ rfl
  simp only [Try.ntmps25, List.size_toArray, List.length_cons, List.length_nil, Nat.reduceAdd, Nat.reduceSub, Array.replicate_succ, Array.replicate_zero, List.push_toArray, List.append_toArray, List.nil_append, List.cons_append]
  gi_wp2_with (refine ⟨trivial, ?_⟩; gi_at_call 50; refine (callsIn_wide.2 (name_upward _ _ _ _)).mono ?_; rintro e w' ⟨rfl, rfl⟩)
  obtain ⟨W0, hW0⟩ : ∃ W0, ((((w.alloc (.cells #[.slice a xs.length c] 23)).alloc (.cells #[.slice a2 ys.length c2] 23)).alloc (.cells #[.int .i64 0] 3)).alloc (.cells #[.slice a xs.length c] 23)) = W0 := ⟨_, rfl⟩
  have bA : Boxed W0 w.heap.size 23 (.slice a xs.length c) := by rw [← hW0]; exact (((Boxed.new w _ _).alloc _).alloc _).alloc _
  have bB : Boxed W0 (w.heap.size + 1) 23 (.slice a2 ys.length c2) := by
    have := Boxed.new (w.alloc (.cells #[.slice a xs.length c] 23)) 23 (.slice a2 ys.length c2)
    rw [World.size_alloc] at this
    rw [← hW0]; exact (this.alloc _).alloc _
  have bI : Boxed W0 (w.heap.size + 1 + 1) 3 (.int .i64 0) := by
    have := Boxed.new ((w.alloc (.cells #[.slice a xs.length c] 23)).alloc (.cells #[.slice a2 ys.length c2] 23)) 3 (.int .i64 0)
    rw [World.size_alloc, World.size_alloc] at this
    rw [← hW0]; exact this.alloc _
  have bV : Boxed W0 (w.heap.size + 1 + 1 + 1) 23 (.slice a xs.length c) := by
    have := Boxed.new (((w.alloc (.cells #[.slice a xs.length c] 23)).alloc (.cells #[.slice a2 ys.length c2] 23)).alloc (.cells #[.int .i64 0] 3)) 23 (.slice a xs.length c)
    rw [World.size_alloc, World.size_alloc, World.size_alloc] at this
    rw [← hW0]; exact this
  have hsz : W0.heap.size = w.heap.size + 4 := by rw [← hW0]; simp
  have hB0 : Below w.heap.size w W0 := by rw [← hW0]; exact ((((Below.refl _ w).alloc (Nat.le_refl _) _).alloc (by simp) _).alloc (by simp; omega) _).alloc (by simp; omega) _
  have hrow := hA.row_lt
  rw [hW0]
  have HZ := Lib.hid hsz; clear hsz hW0
  refine wpIn_rangeFunc_ownG rfl (by omega) (gf := 70) (lb := #[.pointer (some ⟨w.heap.size + 1 + 1 + 1, 0, none⟩)]) rfl trivial (enters_of Try.func70 (by kernel_rfl) rfl)
    (upward_stops _ (by omega) (w.heap.size + 1 + 1 + 1) (.slice a xs.length c) xs (by unfold maxLen; omega) W0 (by rw [HZ.out]; omega) bV.cell (hA.below hB0)) keepN_t (keepN_b (by rw [HZ.out]; omega) (fun g e => by have := hrow g e; rw [HZ.out]; omega)) (Below.refl _ _) (fun _ => rfl)
    (fun pre W => Boxed W w.heap.size 23 (.slice a xs.length c) ∧ Boxed W (w.heap.size + 1) 23 (.slice a2 ys.length c2) ∧ Boxed W (w.heap.size + 1 + 1) 3 (.int .i64 0) ∧ Below w.heap.size w W ∧ ∀ j ∈ pre, AlikeAt xs ys j)
    (fun k pre W => Boxed W w.heap.size 23 (.slice a xs.length c) ∧ Boxed W (w.heap.size + 1) 23 (.slice a2 ys.length c2) ∧ Below w.heap.size w W ∧ ∃ p x, pre = p ++ [x] ∧ (∀ j ∈ p, AlikeAt xs ys j) ∧
      ((k = .exit 0 ∧ ¬ xs.length ≤ x.val + ys.length ∧ Boxed W (w.heap.size + 1 + 1) 3 (.int .i64 0)) ∨ (k = .ret ∧ ∃ d, ∃ h : d < ys.length, x.val + ys.length = d + xs.length ∧ compareM xs[x] ys[d] ≠ 0 ∧ Boxed W (w.heap.size + 1 + 1) 3 (.int .i64 (compareM xs[x] ys[d])))))
    (OwnFrom.and (Own.from (boxed_own _ _ _) _) (OwnFrom.and (Own.from (boxed_own _ _ _) _) (OwnFrom.and (Own.from (boxed_own _ _ _) _) (OwnFrom.and (ownFrom_below (Nat.le_refl _) (by rw [HZ.out]; omega)) (ownFrom_pure _ _)))))
    ?hix
    ⟨bA, bB, bI, hB0, by simp⟩
    (fun j => { tmps := #[.slice a xs.length c, .slice a2 ys.length c2, .pointer (some ⟨w.heap.size, 0, none⟩), .pointer (some ⟨w.heap.size + 1, 0, none⟩), .pointer (some ⟨w.heap.size + 1 + 1, 0, none⟩), .int .i64 (j.val : Int), .string ⟨xs[j].toArray⟩, undef, undef, .slice a xs.length c, .func (.func 70) #[] #[.pointer (some ⟨w.heap.size + 1 + 1 + 1, 0, none⟩)], .int .i64 (j.val : Int), .string ⟨xs[j].toArray⟩, undef, undef, undef, undef, undef, undef, undef, undef, undef, undef, undef, undef, undef, undef, undef, undef, undef, undef, undef, undef, undef, undef, undef], defers := [] }) ?assign ?body ?done ?stop
  case hix =>
    intro k pre W W' row hs hg hr
    obtain ⟨h1, h2, h3, p, x, e, h4, h5⟩ := hs
    have hO : ∀ {B : Nat} {t : TypeId} {v : Value}, Boxed W B t v → Boxed W' B t v := fun hb => Own.from (boxed_own _ _ (fun _ : Unit => _)) _ () W W' row hb hg hr
    refine ⟨hO h1, hO h2, ownFrom_below (β := Unit) (Nat.le_refl _) (by rw [HZ.out]; omega) () W W' row h3 hg hr, p, x, e, h4, ?_⟩
    rcases h5 with ⟨a1, a2, a3⟩ | ⟨a1, d, h, a2, a3, a4⟩
    · exact .inl ⟨a1, a2, hO a3⟩
    · exact .inr ⟨a1, d, h, a2, a3, hO a4⟩
  case assign =>
    intro l x W K hK
    unfold idxV strV
    gi_wp2
    exact hK
  case body =>
    rintro l pre x W ⟨hN, hM, hI, hB, hC⟩ hlt
    have cn := hN.cell
    have cm := hM.cell
    have c0 := hI.cell; have f0 := hI.frozen
    have hxi : x.val < xs.length := x.isLt
    by_cases hge : xs.length ≤ x.val + ys.length
    · obtain ⟨d, hd⟩ : ∃ d, x.val + ys.length = d + xs.length := ⟨x.val + ys.length - xs.length, by omega⟩
      have hdy : d < ys.length := by omega
      have hde : x.val + ys.length - xs.length = d := by omega
      obtain ⟨g, off, rfl, hg, hcell⟩ := hU.cell hB d hdy
      have hz1 : ys[d].length ≤ 1048576 := hk2.get d hdy
      have hx1 : xs[x].length ≤ 1048576 := hk.get x.val hxi
      obtain ⟨sx, hsx0, hsxz, hsxv⟩ := str_of xs[x]
      obtain ⟨sy, hsy0, hsyz, hsyv⟩ := str_of ys[d]
      have hS := fun W => label_Compare sx sy W (by unfold maxLen; omega) (by unfold maxLen; omega)
      rw [hsx0, hsy0] at hS
      rw [str_at hsxv]
      rw [hsyv] at hcell
      have hsub : (x.val : Int) + (ys.length : Int) - (xs.length : Int) = (d : Int) := by omega
      generalize hq : compareM xs[x] ys[d] = q at *
      have HQ := Lib.hid hq
      clear hsx0 hsxz hsxv hsy0 hsyz hsyv hx1 hz1 hq hde
      by_cases hq0 : (q != 0) = true
      · have hn : q ≠ 0 := by simpa using hq0
        have HN := Lib.hid hn; clear hn
        gi_wp2_with (refine ⟨trivial, ?_⟩; gi_at_call 51; refine (CallsIn.inRound l (callsIn_wide.2 (hS _))).mono ?_; rintro e w' ⟨rfl, n, rfl⟩)
        refine ⟨((keepsOthers_drewN _ _).trans (KeepsOthers.setCell _ _ _)).from _, hN.other (by omega) _, hM.other (by omega) _, (below_drewQ hB _).setCell (p := ⟨w.heap.size + 1 + 1, 0, none⟩) (by simp; omega) _, pre, x, rfl, hC, .inr ⟨rfl, d, hdy, hd, by rw [HQ.out]; exact HN.out, ?_⟩⟩
        rw [HQ.out]; exact Boxed.set _ (show Boxed (W.drewN n) (w.heap.size + 1 + 1) 3 (.int .i64 0) from hI)
      · have hn : (q != 0) = false := by simpa using hq0
        have hn0 : q = 0 := by simpa using hn
        have HN := Lib.hid hn0; clear hn0 hq0
        gi_wp2_with (refine ⟨trivial, ?_⟩; gi_at_call 51; refine (CallsIn.inRound l (callsIn_wide.2 (hS _))).mono ?_; rintro e w' ⟨rfl, n, rfl⟩)
        refine ⟨(keepsOthers_drewN _ _).from _, KeepN.drewN _ _, hN, hM, hI, below_drewQ hB _, ?_⟩
        intro j hj
        rcases List.mem_append.1 hj with hj | hj
        · exact hC j hj
        · obtain rfl := List.mem_singleton.1 hj; exact ⟨d, hdy, hd, by rw [HQ.out]; exact HN.out⟩
    · have hneg : (x.val : Int) + (ys.length : Int) - (xs.length : Int) < 0 := by omega
      gi_wp2
      exact ⟨(KeepsOthers.refl _).from _, hN, hM, hB, pre, x, rfl, hC, .inl ⟨rfl, hge, hI⟩⟩
  case done =>
    rintro D zs W hD rfl ⟨hN, hM, hI, hB, hC⟩ hK
    have cn := hN.cell
    have cm := hM.cell
    have c0 := hI.cell; have f0 := hI.frozen
    have hDn : w.heap.size + 1 + 1 ≠ D := by have := HZ.out; omega
    have hE : compareN xs ys = cmpI xs.length ys.length := compareN_even (fun j h1 h2 => (hC ⟨j, h1⟩ (by simp)).eq.2 (by omega))
    have HE := Lib.hid hE; clear hE hC
    gi_wp2_with (refine ⟨trivial, ?_⟩; gi_at_call 26; refine (callsIn_wide.2 (cmp_int _ _ _)).mono ?_; rintro e w' ⟨rfl, rfl⟩)
    refine ⟨by simp, .inl ⟨_, _, rfl, run_takeDeferred (heap_setOther hK hDn.symm _), ?_⟩⟩
    refine ⟨_, results_cell rfl Try.underlying3 _ _ rfl (out_cell (hI.set _) hDn _), by rw [HE.out], ?_⟩
    exact below_putO (hB.setCell (p := ⟨w.heap.size + 1 + 1, 0, none⟩) (by simp; omega) _) (by have := HZ.out; omega) (Nat.le_refl _)
  case stop =>
    rintro D k pre W hD hp ⟨hN, hM, hB, p, x, rfl, hp0, hor⟩ hK
    have cn := hN.cell
    have cm := hM.cell
    have hDn : w.heap.size + 1 + 1 ≠ D := by have := HZ.out; omega
    obtain ⟨_, hall⟩ := rev_prefix hp
    rcases hor with ⟨rfl, hx, hI⟩ | ⟨rfl, d, hd, he, hne, hI⟩
    · have c0 := hI.cell; have f0 := hI.frozen
      have hE : compareN xs ys = cmpI xs.length ys.length := compareN_even (fun j h1 h2 => (hp0 ⟨j, h1⟩ (hall _ (by show x.val < j; omega))).eq.2 (by omega))
      have HE := Lib.hid hE; clear hE hall hp0 hx
      gi_wp2_with (refine ⟨trivial, ?_⟩; gi_at_call 26; refine (callsIn_wide.2 (cmp_int _ _ _)).mono ?_; rintro e w' ⟨rfl, rfl⟩)
      refine ⟨by simp, .inl ⟨_, _, rfl, run_takeDeferred (heap_setOther hK hDn.symm _), ?_⟩⟩
      refine ⟨_, results_cell rfl Try.underlying3 _ _ rfl (out_cell (hI.set _) hDn _), by rw [HE.out], ?_⟩
      exact below_putO (hB.setCell (p := ⟨w.heap.size + 1 + 1, 0, none⟩) (by simp; omega) _) (by have := HZ.out; omega) (Nat.le_refl _)
    · have c0 := hI.cell; have f0 := hI.frozen
      have hE : compareN xs ys = compareM xs[x] ys[d] := by
        obtain rfl : d = x.val + ys.length - xs.length := by omega
        exact compareN_at x.val x.isLt (by omega) hne (fun j h1 h2 h3 => (hp0 ⟨j, h1⟩ (hall _ h3)).eq.2 (by omega))
      have HE := Lib.hid hE; clear hE hall hp0
      gi_wp2
      refine ⟨by simp, .inl ⟨_, _, rfl, run_takeDeferred hK, ?_⟩⟩
      refine ⟨_, results_cell rfl Try.underlying3 _ _ rfl (out_cell hI hDn _), by rw [HE.out], ?_⟩
      exact below_putO hB (by have := HZ.out; omega) (Nat.le_refl _)
end
end Go.Proofs.Ytckammgnmgkieaa

/-
  Names as lists of labels: plain facts for the statements of layer 2: words and back, relative words, another end, one ahead, where two meet.
-/
namespace Go.Proofs.Ytckammgnmgkieaa
set_option maxRecDepth 20000
open Go.RowKit Go.Shelf

theorem octetW_first (c : UInt8) (r : List UInt8) : octetW c ++ r ≠ [64] ∧ octetW c ++ r ≠ [46] ∧ octetW c ++ r ≠ [] := by
  by_cases hsp : specialU c = true
  · rw [octetW_special hsp]; simp
  have hsp0 : specialU c = false := by simpa using hsp
  by_cases h2 : (c.toNat : Int) < 33 ∨ 126 < (c.toNat : Int)
  · rw [octetW_esc hsp0 h2]; simp [octetEsc]
  · rw [octetW_plain hsp0 (by omega) (by omega)]
    have h46 : c ≠ 46 := by intro e; subst e; revert hsp0; decide
    have h64 : c ≠ 64 := by intro e; subst e; revert hsp0; decide
    refine ⟨?_, ?_, by simp⟩
    · intro e; simp at e; exact h64 e.1
    · intro e; simp at e; exact h46 e.1
theorem textL_first {x : List UInt8} (h : x ≠ []) (r : List UInt8) : textL x ++ r ≠ [64] ∧ textL x ++ r ≠ [46] ∧ textL x ++ r ≠ [] := by
  cases x with
  | nil => exact absurd rfl h
  | cons c x => rw [textL_cons, List.append_assoc]; exact octetW_first c _
theorem joinL_first {n : Nm} (hn : n ≠ []) (hx : ∀ x ∈ n, x ≠ []) : joinL n ≠ [64] ∧ joinL n ≠ [46] ∧ joinL n ≠ [] := by
  cases n with
  | nil => exact absurd rfl hn
  | cons x r => exact textL_first (hx x (by simp)) _
theorem label_ne {n : Nm} (h : checkL n = 0) : ∀ x ∈ n, x ≠ [] := fun x hx => (checkLabelM_ok (checkL_mem h x hx)).1
theorem joinL_snoc_ne {n : Nm} (hn : n ≠ []) (hx : ∀ x ∈ n, x ≠ []) (y : List UInt8) : joinL (n ++ [y]) ≠ [64] ∧ joinL (n ++ [y]) ≠ [46] ∧ joinL (n ++ [y]) ≠ [] := by
  cases n with
  | nil => exact absurd rfl hn
  | cons x r => exact textL_first (hx x (by simp)) _

/-- A name's words are that name again. -/
theorem parse_textN {n : Nm} (h : checkN n = 0) (o : Nm) : parseN (textN n) o = (n, 0) := by
  have hL := checkN_L h
  by_cases hn : n = []
  · subst hn; rfl
  have ht : textN n = joinL (n ++ [[]]) := by unfold textN; rw [if_neg hn, joinL_flat n hn]
  obtain ⟨h1, h2, h3⟩ := joinL_snoc_ne hn (label_ne hL) []
  rw [ht]
  unfold parseN
  rw [if_neg h1, if_neg h2, if_neg h3, split_join (by simp)]
  simp only [if_true, List.map_append, List.map_cons, List.map_nil]
  have hw : wholeN (n.map textL ++ [textL []]) = true := by unfold wholeN; simp [textL]
  have hp : partsN (n.map textL ++ [textL []]) = n.map textL := by unfold partsN; rw [hw]; simp
  unfold endN
  rw [hw, hp, readN_text hL]
  simp [h]
theorem textN_dot {n : Nm} (hn : n ≠ []) : textN n = joinL n ++ [46] := by
  have ht : textN n = joinL (n ++ [[]]) := by unfold textN; rw [if_neg hn, joinL_flat n hn]
  rw [ht, joinL_snoc hn]
  simp [textL]
/-- Without the dot at the end: put ahead of the origin. -/
theorem parse_joinN {n : Nm} (hn : n ≠ []) (h : checkN n = 0) (o : Nm) : parseN (joinL n) o = (if checkN (n ++ o) = 0 then n ++ o else [], checkN (n ++ o)) := by
  have hL := checkN_L h
  obtain ⟨h1, h2, h3⟩ := joinL_first hn (label_ne hL)
  unfold parseN
  rw [if_neg h1, if_neg h2, if_neg h3, split_join hn]
  have hw : wholeN (n.map textL) = false := by
    unfold wholeN
    apply decide_eq_false
    intro e
    obtain ⟨r, x, rfl⟩ : ∃ r x, n = r ++ [x] := ⟨n.dropLast, n.getLast hn, (List.dropLast_concat_getLast hn).symm⟩
    simp at e
    exact label_ne hL x (by simp) (textL_nil_iff e)
  have hp : partsN (n.map textL) = n.map textL := by unfold partsN; rw [hw]; simp
  simp only [if_true]
  unfold endN
  rw [hw, hp, readN_text hL]
  simp only [if_true, Bool.false_eq_true, if_false]
  by_cases hc : checkN (n ++ o) = 0
  · rw [if_pos hc, if_pos hc, hc]
  · rw [if_neg hc, if_neg hc]
theorem checkN_app {n o : Nm} (h : checkL n = 0) (h2 : checkL o = 0) (h3 : checkN (n ++ o) ≠ 0) : checkN (n ++ o) = 3 := by
  unfold checkN at h3 ⊢
  rw [checkL_append, if_pos h, if_pos h2] at h3 ⊢
  by_cases e : 255 < lenN (n ++ o)
  · rw [if_pos e]
  · rw [if_neg e] at h3; exact absurd rfl h3

/-! ### another end -/
theorem checkL_len : ∀ (a b : Nm), a.map List.length = b.map List.length → checkL a = checkL b
  | [], [] => fun _ => rfl
  | [], _ :: _ => by intro h; simp at h
  | _ :: _, [] => by intro h; simp at h
  | x :: r, y :: t => by
    intro h
    simp only [List.map_cons, List.cons.injEq] at h
    have hc : checkLabelM x = checkLabelM y := by
      unfold checkLabelM
      by_cases hx : x = []
      · have : y = [] := List.eq_nil_of_length_eq_zero (by rw [← h.1, hx]; rfl)
        rw [if_pos hx, if_pos this]
      · have : y ≠ [] := by intro e; apply hx; exact List.eq_nil_of_length_eq_zero (by rw [h.1, e]; rfl)
        rw [if_neg hx, if_neg this, h.1]
    simp only [checkL, hc, checkL_len r t h.2]
theorem lenN_len (a b : Nm) (h : a.map List.length = b.map List.length) : lenN a = lenN b := by
  unfold lenN
  have : ∀ c : Nm, (c.map fun x => 1 + x.length) = (c.map List.length).map fun k => 1 + k := fun c => by simp
  rw [this a, this b, h]
theorem checkN_len {a b : Nm} (h : a.map List.length = b.map List.length) : checkN a = checkN b := by
  unfold checkN; rw [checkL_len a b h, lenN_len a b h]
theorem foldL_len (l : List UInt8) : (foldL l).length = l.length := by simp [foldL]
theorem foldN_lens {a b : Nm} (h : foldN a = foldN b) : a.map List.length = b.map List.length := by
  have : ∀ c : Nm, c.map List.length = (foldN c).map List.length := fun c => by
    unfold foldN; rw [List.map_map]; apply List.map_congr_left; intro l _; exact (foldL_len l).symm
  rw [this a, this b, h]
theorem foldN_append (a b : Nm) : foldN (a ++ b) = foldN a ++ foldN b := by simp [foldN]
/-- What stands ahead of f in n, f at its end, is n but for how it is written. -/
theorem under_parts {n f : Nm} (h : underN n f = true) : foldN (n.take (n.length - f.length) ++ f) = foldN n := by
  have hl := underN_len h
  unfold underN at h
  simp only [Bool.and_eq_true, decide_eq_true_eq, sameN_iff] at h
  rw [foldN_append, ← h.2, ← foldN_append, List.take_append_drop]
theorem swap_back {n f t : Nm} (h : (swapN n f t).2 = 0) (hc : checkN n = 0) :
    underN (swapN n f t).1 t = true ∧ (swapN (swapN n f t).1 t f).2 = 0 ∧ sameN (swapN (swapN n f t).1 t f).1 n = true := by
  unfold swapN at h
  by_cases hu : underN n f = true
  · rw [if_pos hu] at h
    by_cases hk : checkN (n.take (n.length - f.length) ++ t) = 0
    · have hs : swapN n f t = (n.take (n.length - f.length) ++ t, 0) := by unfold swapN; rw [if_pos hu, if_pos hk]
      rw [hs]
      have hut : underN (n.take (n.length - f.length) ++ t) t = true := (underN_iff _ _).2 ⟨foldN (n.take (n.length - f.length)), foldN_append _ _⟩
      have hp := under_parts hu
      have htk : (n.take (n.length - f.length) ++ t).take ((n.take (n.length - f.length) ++ t).length - t.length) = n.take (n.length - f.length) := by
        rw [List.length_append, Nat.add_sub_cancel]; exact List.take_left
      have hck : checkN (n.take (n.length - f.length) ++ f) = 0 := by rw [checkN_len (foldN_lens hp)]; exact hc
      have hb : swapN (n.take (n.length - f.length) ++ t) t f = (n.take (n.length - f.length) ++ f, 0) := by
        unfold swapN; rw [if_pos hut, htk, if_pos hck]
      simp only [hb]
      exact ⟨hut, trivial, (sameN_iff _ _).2 hp⟩
    · rw [if_neg hk] at h; simp at h
  · rw [if_neg hu] at h; simp at h

/-! ### one ahead -/
theorem under_child (l : List UInt8) (n : Nm) : underN (l :: n) n = true := (underN_iff _ _).2 ⟨[foldL l], rfl⟩
theorem not_under_child (l : List UInt8) (n : Nm) : underN n (l :: n) = false := by
  cases h : underN n (l :: n) with
  | false => rfl
  | true => have := underN_len h; simp at this; omega
theorem cmpR_more : ∀ (p : Nm) (l : List UInt8), cmpR p (p ++ [l]) = -1
  | [], _ => rfl
  | x :: r, l => by
    simp only [List.cons_append, cmpR]
    rw [if_pos ((compareM_zero x x).2 rfl)]; exact cmpR_more r l
theorem compare_child (l : List UInt8) (n : Nm) : compareN n (l :: n) = -1 := by
  unfold compareN; rw [List.reverse_cons]; exact cmpR_more _ _

/-! ### where two names meet -/
theorem sharedR_le : ∀ p q : Nm, sharedR p q ≤ p.length ∧ sharedR p q ≤ q.length
  | [], _ => by simp [sharedR]
  | _ :: _, [] => by simp [sharedR]
  | x :: r, y :: t => by
    have := sharedR_le r t
    simp only [sharedR]; split <;> simp <;> omega
theorem sharedR_fold : ∀ p q : Nm, foldN (p.take (sharedR p q)) = foldN (q.take (sharedR p q))
  | [], _ => by simp [sharedR]
  | _ :: _, [] => by simp [sharedR]
  | x :: r, y :: t => by
    have ih := sharedR_fold r t
    simp only [sharedR]
    by_cases e : compareM x y = 0
    · rw [if_pos e]; simp only [List.take_succ_cons, foldN, List.map_cons] at ih ⊢
      rw [(compareM_zero x y).1 e, ih]
    · rw [if_neg e]; simp
theorem sharedR_max : ∀ (p q : Nm) (k : Nat), k ≤ p.length → k ≤ q.length → foldN (p.take k) = foldN (q.take k) → k ≤ sharedR p q
  | _, _, 0 => by intros; omega
  | [], _, _ + 1 => by intro h; simp at h
  | _ :: _, [], _ + 1 => by intro _ h; simp at h
  | x :: r, y :: t, k + 1 => by
    intro h1 h2 h3
    simp only [List.take_succ_cons, foldN, List.map_cons, List.cons.injEq] at h3
    have ih := sharedR_max r t k (by simpa using h1) (by simpa using h2) h3.2
    simp only [sharedR]
    rw [if_pos ((compareM_zero x y).2 h3.1)]; omega
theorem take_reverse_drop (p : Nm) (k : Nat) : p.reverse.take k = (p.drop (p.length - k)).reverse := by
  rw [List.take_reverse]
theorem foldN_rev_inj {a b : Nm} (h : foldN a.reverse = foldN b.reverse) : foldN a = foldN b := by
  rw [foldN_reverse, foldN_reverse] at h; exact List.reverse_inj.1 h
theorem common_len (a b : Nm) : (commonN a b).length = sharedR a.reverse b.reverse := by
  have := sharedR_le a.reverse b.reverse
  unfold commonN; rw [List.length_drop]; simp at this; omega
theorem common_under_a (a b : Nm) : underN a (commonN a b) = true := by
  have := sharedR_le a.reverse b.reverse
  rw [underN_iff]; unfold commonN
  refine ⟨foldN (a.take (a.length - sharedR a.reverse b.reverse)), ?_⟩
  rw [← foldN_append, List.take_append_drop]
theorem common_under_b (a b : Nm) : underN b (commonN a b) = true := by
  have hl := sharedR_le a.reverse b.reverse
  simp only [List.length_reverse] at hl
  have h := sharedR_fold a.reverse b.reverse
  rw [take_reverse_drop, take_reverse_drop] at h
  have h2 := foldN_rev_inj h
  rw [underN_iff]; unfold commonN
  refine ⟨foldN (b.take (b.length - sharedR a.reverse b.reverse)), ?_⟩
  rw [h2, ← foldN_append, List.take_append_drop]
/-- What is below both is not deeper: by one label more of a. -/
theorem common_deepest (a b : Nm) (k : Nat) (hk : k ≤ a.length) (h : underN b (a.drop (a.length - k)) = true) : k ≤ (commonN a b).length := by
  rw [common_len]
  have hl := underN_len h
  rw [List.length_drop] at hl
  have hkb : k ≤ b.length := by omega
  unfold underN at h
  simp only [Bool.and_eq_true, decide_eq_true_eq, sameN_iff] at h
  have e : (a.drop (a.length - k)).length = k := by rw [List.length_drop]; omega
  rw [e] at h
  refine sharedR_max _ _ _ (by simpa using hk) (by simpa using hkb) ?_
  rw [take_reverse_drop, take_reverse_drop, foldN_reverse, foldN_reverse, h.2]

end Go.Proofs.Ytckammgnmgkieaa

/-
  Package rtype's table looked up: by the number, by the name.
-/
namespace Go.Proofs.Ytckammgnmgkieaa
set_option maxRecDepth 20000
open Go.RowKit Go.Shelf

theorem fin_prefix {n : Nat} {p : List (Fin n)} {x : Fin n} (h : (p ++ [x]) <+: List.finRange n) : ∀ j : Fin n, j.val < x.val → j ∈ p := by
  have hl : p.length + 1 ≤ n := by have := h.length_le; simpa using this
  have hg : ∀ i (h1 : i < p.length + 1), (p ++ [x])[i]'(by simpa using h1) = ⟨i, by omega⟩ := fun i h1 => by
    have := h.getElem (i := i) (by simpa using h1)
    rw [this]; simp
  have hx : x.val = p.length := by
    have := hg p.length (by omega)
    rw [List.getElem_append_right (Nat.le_refl _)] at this
    simp at this; rw [this]
  intro j hj
  have h1 : j.val < p.length := by omega
  have := hg j.val (by omega)
  rw [List.getElem_append_left h1] at this
  rw [← show p[j.val] = j from this]; exact List.getElem_mem h1
theorem results_sb {fn : Func} {t u : Tmp} {S B : TypeId} (h : fn.results = #[.cell t S, .cell u B]) (hS : Try.prog.underlying S = some .string) (hB : Try.prog.underlying B = some .bool) (tmps : Array Value) (W : World) {a b : Nat} {v z : Value}
    (ht : tmps.getD t undef = .pointer (some ⟨a, 0, none⟩)) (hu : tmps.getD u undef = .pointer (some ⟨b, 0, none⟩)) (hc : W.cell? ⟨a, 0, none⟩ = some v) (hd : W.cell? ⟨b, 0, none⟩ = some z) : (results fn tmps).run Try.prog W = .ok (.tuple #[v, z]) W := by
  have ht' : tmps[t]?.getD undef = .pointer (some ⟨a, 0, none⟩) := by rw [← ht]; simp
  have hu' : tmps[u]?.getD undef = .pointer (some ⟨b, 0, none⟩) := by rw [← hu]; simp
  have h1 : ∀ w, Sem.run Try.prog (underlying S) w = .ok _ w := run_underlying hS
  have h2 : ∀ w, Sem.run Try.prog (underlying B) w = .ok _ w := run_underlying hB
  simp [results, h, ht', hu', loadVar, asAddr, go_sem, h1, h2, hc, hd, isAgg]
theorem results_ib {fn : Func} {t u : Tmp} {S B : TypeId} {k : IntKind} (h : fn.results = #[.cell t S, .cell u B]) (hS : Try.prog.underlying S = some (.int k)) (hB : Try.prog.underlying B = some .bool) (tmps : Array Value) (W : World) {a b : Nat} {v z : Value}
    (ht : tmps.getD t undef = .pointer (some ⟨a, 0, none⟩)) (hu : tmps.getD u undef = .pointer (some ⟨b, 0, none⟩)) (hc : W.cell? ⟨a, 0, none⟩ = some v) (hd : W.cell? ⟨b, 0, none⟩ = some z) : (results fn tmps).run Try.prog W = .ok (.tuple #[v, z]) W := by
  have ht' : tmps[t]?.getD undef = .pointer (some ⟨a, 0, none⟩) := by rw [← ht]; simp
  have hu' : tmps[u]?.getD undef = .pointer (some ⟨b, 0, none⟩) := by rw [← hu]; simp
  have h1 : ∀ w, Sem.run Try.prog (underlying S) w = .ok _ w := run_underlying hS
  have h2 : ∀ w, Sem.run Try.prog (underlying B) w = .ok _ w := run_underlying hB
  simp [results, h, ht', hu', loadVar, asAddr, go_sem, h1, h2, hc, hd, isAgg]
theorem rowOfT_at {t : Int} {x : Fin 9} {p : List (Fin 9)} (hp : (p ++ [x]) <+: List.finRange 9) (h : typeT x.val = t) (hn : ∀ j ∈ p, typeT j.val ≠ t) : rowOfT t = some x.val :=
  rowOfT_first x.isLt h (fun j hj => hn ⟨j, Nat.lt_trans hj x.isLt⟩ (fin_prefix hp ⟨j, Nat.lt_trans hj x.isLt⟩ hj))
theorem rowOfS_at {t : List UInt8} {x : Fin 9} {p : List (Fin 9)} (hp : (p ++ [x]) <+: List.finRange 9) (h : typeS x.val = t) (hn : ∀ j ∈ p, typeS j.val ≠ t) : rowOfS t = some x.val :=
  rowOfS_first x.isLt h (fun j hj => hn ⟨j, Nat.lt_trans hj x.isLt⟩ (fin_prefix hp ⟨j, Nat.lt_trans hj x.isLt⟩ hj))
def keyOfM (s : List UInt8) : Int × Bool := match rowOfS s with | some j => (typeT j, true) | none => (0, false)

section
attribute [local go_sem] Oper.semAt_some
end
end Go.Proofs.Ytckammgnmgkieaa

/-
  The document's names (package toponymref6): Under, Common.
-/
namespace Go.Proofs.Ytckammgnmgkieaa
set_option maxRecDepth 20000
open Go.RowKit Go.Shelf

theorem strs_cap {W : World} {a : Option Addr} {n c c' : Nat} {xs : Nm} (h : StrsAt W (.slice a n c) xs) : StrsAt W (.slice a n c') xs := by
  obtain ⟨a1, c1, e, hx⟩ := h
  cases e
  exact ⟨_, _, rfl, hx⟩
/-- What is left of a slice from d on, as the walk has it. -/
theorem nm_drop {W : World} {a : Option Addr} {c d : Nat} {xs : Nm} (h : NmAt W (.slice a xs.length c) xs) (hd : d ≤ xs.length) :
    (a = none ∧ xs = [] ∧ d = 0 ∧ c = 0) ∨ (∃ ad, a = some ad ∧ xs = [] ∧ d = 0) ∨ ∃ g off, a = some ⟨g, off, none⟩ ∧ NmAt W (.slice (if c = d then some ⟨g, off, none⟩ else some ⟨g, off + d, none⟩) (xs.length - d) (c - d)) (xs.drop d) := by
  obtain ⟨hA, a', n', c', e, hcap, hno⟩ := h
  cases e
  cases a with
  | none =>
    have h0 := hno rfl
    subst h0
    have hx : xs = [] := List.eq_nil_of_length_eq_zero (by omega)
    subst hx
    exact .inl ⟨rfl, rfl, by simpa using hd, rfl⟩
  | some ad =>
    by_cases hx : xs = []
    · subst hx; exact .inr (.inl ⟨ad, rfl, rfl, by simpa using hd⟩)
    · right; right
      obtain ⟨a1, c1, e1, h1⟩ := id hA
      cases e1
      rcases h1 with e | ⟨g, off, e, hg, hc⟩
      · exact absurd e hx
      · cases e
        exact ⟨g, off, rfl, strs_drop hA hcap d hd _, drop_ok hcap⟩

theorem common_first {xs ys : Nm} {k : Nat} (hk : k ≤ xs.length) (h : underN ys (xs.drop k) = true) (hn : ∀ j, j < k → underN ys (xs.drop j) = false) : commonN xs ys = xs.drop k := by
  have hl := sharedR_le xs.reverse ys.reverse
  simp only [List.length_reverse] at hl
  have h1 := common_deepest xs ys (xs.length - k) (by omega) (by rw [show xs.length - (xs.length - k) = k by omega]; exact h)
  rw [common_len] at h1
  have h2 := common_under_b xs ys
  unfold commonN at h2 ⊢
  by_cases hlt : xs.length - sharedR xs.reverse ys.reverse < k
  · rw [hn _ hlt] at h2; cases h2
  · congr 1; omega
def CommonPost (xs ys : Nm) (w : World) (e : Ending) (w' : World) : Prop := ∃ v', e = .returned v' ∧ NmAt w' v' (commonN xs ys) ∧ Below w.heap.size w w'

end Go.Proofs.Ytckammgnmgkieaa

