/-
  Package name's contracts in one spelling, for laws: arguments that read as names, answers named by equations.
-/
import Derived.Test.YtckammgnmgkieaaMQ09
import Derived.Test.YtckammgnmgkieaaMQ38
import Derived.Test.YtckammgnmgkieaaMQ12
import Derived.Test.YtckammgnmgkieaaMQ14
import Derived.Test.YtckammgnmgkieaaMQ16
import Derived.Test.YtckammgnmgkieaaMQ41
import Derived.Laws.AppendOwnNone
import Derived.Lib.Walk
import Derived.Lib.SliceRun
import Derived.Test.YtckammgnmgkieaaMQ23
import Derived.Lib.AppendIntMem
import Derived.IntWalk
namespace Go.Proofs.Ytckammgnmgkieaa
set_option maxRecDepth 20000
open Go.RowKit Go.Shelf

theorem NmAt.alloc {W : World} {v : Value} {xs : Nm} (h : NmAt W v xs) (o : Obj) : NmAt (W.alloc o) v xs := h.below ((Below.refl _ _).alloc (Nat.le_refl _) _)

theorem nm_lit (W : World) (ys : Nm) (cs : List Value) (k g : Nat) (hc : cs = ys.map strV) (hk : ys.length = k) (hm : k ≤ 1048576) (hg : W.heap.size = g) :
    NmAt (W.alloc (.cells cs.toArray 9)) (.slice (some ⟨g, 0, none⟩) k k) ys := by
  subst hc hk hg
  exact (OwnG.lit (T := 9) (enc := strV) W W.heap.size (Nat.le_refl _) ys (by unfold maxLen; omega)).nmAt
theorem nmOK_of {xs : Nm} (h : fewN xs = true) : NmOK xs := fewN_ok h

def NmRes (xs : Nm) (k : Nat) (w : World) (e : Ending) (w' : World) : Prop := ∃ a c, e = .returned (.slice a k c) ∧ NmAt w' (.slice a k c) xs ∧ Below w.heap.size w w'
def NmRes2 (xs : Nm) (k : Nat) (er : Int) (w : World) (e : Ending) (w' : World) : Prop := ∃ a c, e = .returned (.tuple #[.slice a k c, .int .i64 er]) ∧ NmAt w' (.slice a k c) xs ∧ Below w.heap.size w w'
theorem nmRes_of {xs : Nm} {k : Nat} {w w' : World} {v : Value} (hk : xs.length = k) (ho : OwnG 9 strV w' w.heap.size v xs) (hb : Below w.heap.size w w') : NmRes xs k w (.returned v) w' := by
  subst hk
  obtain ⟨a, c, rfl⟩ := ho.shape
  exact ⟨a, c, rfl, ho.nmAt, hb⟩
theorem nmRes2_of {xs : Nm} {k : Nat} {er : Int} {w w' : World} {v : Value} (hk : xs.length = k) (ho : OwnG 9 strV w' w.heap.size v xs) (hb : Below w.heap.size w w') : NmRes2 xs k er w (.returned (.tuple #[v, .int .i64 er])) w' := by
  subst hk
  obtain ⟨a, c, rfl⟩ := ho.shape
  exact ⟨a, c, rfl, ho.nmAt, hb⟩

theorem kn_NUnder (v u : Value) (n z : Nm) (r : Bool) (h : underN n z = r) (w : World) (hA : NmAt w v n) (hU : NmAt w u z) (h1 : NmOK n) (h2 : NmOK z) :
    Calls Try.prog 58 #[v, u] w fun e w' => e = .returned (.bool r) ∧ Below w.heap.size w w' := by
  subst h; exact name_Under v u n z w hA.1 hU.1 h1 h2
theorem kn_NSame (v u : Value) (n z : Nm) (r : Bool) (h : sameN n z = r) (w : World) (hA : NmAt w v n) (hU : NmAt w u z) (h1 : NmOK n) (h2 : NmOK z) :
    Calls Try.prog 12 #[v, u] w fun e w' => e = .returned (.bool r) ∧ Below w.heap.size w w' := by
  subst h; exact name_Same v u n z w hA.1 hU.1 h1 h2
theorem kn_NCompare (v u : Value) (n z : Nm) (r : Int) (h : compareN n z = r) (w : World) (hA : NmAt w v n) (hU : NmAt w u z) (h1 : NmOK n) (h2 : NmOK z) :
    Calls Try.prog 25 #[v, u] w fun e w' => e = .returned (.int .i64 r) ∧ Below w.heap.size w w' := by
  subst h; exact name_Compare v u n z w hA.1 hU.1 h1 h2
theorem kn_NWild (v : Value) (n : Nm) (r : Bool) (h : wildN n = r) (w : World) (hA : NmAt w v n) (h1 : NmOK n) :
    Calls Try.prog 41 #[v] w fun e w' => e = .returned (.bool r) ∧ Below w.heap.size w w' := by
  subst h; refine (name_Wild v n w hA.1 h1).mono ?_
  rintro e w' ⟨he, rfl⟩; exact ⟨he, Below.refl _ _⟩
end Go.Proofs.Ytckammgnmgkieaa

/-
  rdata.pairs and its iterator, at the four element types. (Written by wip/tools/gen4.py.)
-/
namespace Go.Proofs.Ytckammgnmgkieaa
set_option maxRecDepth 20000
open Go.RowKit Go.Shelf

/-- What a round over pairs must keep. -/
def KeepP (b b2 : Nat) (v u : Value) (W W' : World) : Prop := KeepN b v W W' ∧ KeepN b2 u W W'
theorem KeepP.refl (b b2 : Nat) (v u : Value) (W : World) : KeepP b b2 v u W W := ⟨KeepN.refl _ _ _, KeepN.refl _ _ _⟩
theorem KeepP.trans {b b2 : Nat} {v u : Value} {A B C : World} (h : KeepP b b2 v u A B) (k : KeepP b b2 v u B C) : KeepP b b2 v u A C := ⟨h.1.trans k.1, h.2.trans k.2⟩
theorem KeepP.drewN {b b2 : Nat} {v u : Value} (W : World) (n : Nat) : KeepP b b2 v u W (W.drewN n) := ⟨KeepN.drewN _ _, KeepN.drewN _ _⟩
def pairV (xs ys : List Value) (j : Fin (min xs.length ys.length)) : Array Value := #[xs[j.val]'(by have := j.isLt; omega), ys[j.val]'(by have := j.isLt; omega)]

/-- The first of the answers that isn't 0, else what the lengths tell. -/
def FirstC (cs : Nat → Int) (n m : Nat) (r : Int) : Prop := (∃ k, k < n ∧ k < m ∧ (∀ j, j < k → cs j = 0) ∧ cs k ≠ 0 ∧ r = cs k) ∨ ((∀ j, j < n → j < m → cs j = 0) ∧ r = cmpI n m)
theorem firstC_cmpL {α : Type} {f : α → α → Int} {a b : List α} {cs : Nat → Int} {r : Int} (hc : ∀ j (h1 : j < a.length) (h2 : j < b.length), cs j = f a[j] b[j]) (h : FirstC cs a.length b.length r) : r = cmpL f a b := by
  have key : ∀ k, k ≤ a.length → k ≤ b.length → (∀ j, j < k → cs j = 0) → cmpL f a b = cmpL f (a.drop k) (b.drop k) := by
    intro k
    induction k with
    | zero => intro _ _ _; rfl
    | succ k ih =>
      intro h1 h2 h3
      rw [ih (by omega) (by omega) (fun j hj => h3 j (by omega)), cmpL_step k (by omega) (by omega), if_pos]
      rw [← hc k (by omega) (by omega)]; exact h3 k (by omega)
  rcases h with ⟨k, h1, h2, h3, h4, rfl⟩ | ⟨h1, rfl⟩
  · rw [key k (by omega) (by omega) h3, cmpL_step k h1 h2, if_neg (by rw [← hc k h1 h2]; exact h4), hc k h1 h2]
  · rcases Nat.le_total a.length b.length with h | h
    · rw [key a.length (Nat.le_refl _) h (fun j hj => h1 j hj (by omega)), cmpL_end _ (Nat.le_refl _) h (.inl rfl)]
    · rw [key b.length h (Nat.le_refl _) (fun j hj => h1 j (by omega) hj), cmpL_end _ h (Nat.le_refl _) (.inr rfl)]
theorem pre_fin {m : Nat} {p : List (Fin m)} {x : Fin m} (h : p ++ [x] <+: List.finRange m) : ∀ j (hj : j < x.val), (⟨j, by have := x.isLt; omega⟩ : Fin m) ∈ p := by
  have hl : p.length + 1 ≤ m := by have := h.length_le; simpa using this
  have e := List.prefix_iff_eq_take.1 h
  rw [List.length_append, List.length_singleton, finRange_take_succ (by omega)] at e
  obtain ⟨e1, e2⟩ := List.append_inj' e rfl
  have e2 : x = ⟨p.length, by omega⟩ := by simpa using e2
  intro j hj
  rw [e2] at hj
  have hj' : j < p.length := hj
  rw [e1]
  refine List.mem_iff_getElem.2 ⟨j, by rw [List.length_take, List.length_finRange]; omega, by simp⟩
def lastC {m : Nat} (cs : Nat → Int) (pre : List (Fin m)) : Int := cs ((pre.getLast?.map Fin.val).getD 0)
theorem lastC_snoc {m : Nat} (cs : Nat → Int) (p : List (Fin m)) (x : Fin m) : lastC cs (p ++ [x]) = cs x.val := by simp [lastC]
theorem keepP_t {b b2 : Nat} {v u : Value} {A B C : World} (h : KeepP b b2 v u A B) (k : KeepP b b2 v u B C) : KeepP b b2 v u A C := h.trans k
theorem SlAt.row_lt {W : World} {v : Value} {xs : List Value} (h : SlAt W v xs) : ∀ g, rowOf v = some g → g < W.heap.size := by
  obtain ⟨a, c, rfl, _, _, hx⟩ := h
  intro g hg
  rcases hx with e | ⟨b, off, rfl, hb, _⟩
  · subst e; cases a <;> cases hg
  · cases xs with
    | nil => cases hg
    | cons x r => cases hg; exact hb

end Go.Proofs.Ytckammgnmgkieaa

/-
  What a stable sort leaves is the one sorted row.
-/
namespace Go.Proofs.Ytckammgnmgkieaa
set_option maxRecDepth 20000
open Go.RowKit Go.Shelf Go.Sort
open Stb (COrd Lx Rise)

theorem eq_of_perm_strict {α : Type} {R : α → α → Prop} (ht : ∀ x y z, R x y → R y z → R x z) (hi : ∀ x, ¬ R x x) : ∀ (a b : List α), a.Perm b → a.Pairwise R → b.Pairwise R → a = b
  | [], b, hp, _, _ => (List.nil_perm.1 hp).symm
  | x :: a, [], hp, _, _ => by have := hp.length_eq; simp at this
  | x :: a, y :: b, hp, h1, h2 => by
    have p1 := List.pairwise_cons.1 h1
    have p2 := List.pairwise_cons.1 h2
    have e : x = y := by
      have hx : x ∈ y :: b := hp.mem_iff.1 (by simp)
      have hy : y ∈ x :: a := hp.mem_iff.2 (by simp)
      rcases List.mem_cons.1 hx with h | h
      · exact h
      · rcases List.mem_cons.1 hy with g | g
        · exact g.symm
        · exact absurd (ht _ _ _ (p1.1 y g) (p2.1 x h)) (hi x)
    subst e
    rw [eq_of_perm_strict ht hi a b (List.Perm.cons_inv hp) p1.2 p2.2]

section
variable {α : Type} [Inhabited α] (rc : α → Rc) (tg : α → Nat)
def insT : List α → α → List α
  | [], x => [x]
  | y :: r, x => if compareR (rc y) (rc x) ≤ 0 then y :: insT r x else x :: y :: r
def sortT (l : List α) : List α := l.foldl (insT rc) []
omit [Inhabited α] in
theorem insT_map : ∀ (l : List α) (x : α), (insT rc l x).map rc = insS (l.map rc) (rc x)
  | [], x => rfl
  | y :: r, x => by
    simp only [insT, insS, List.map_cons]
    split
    · rw [List.map_cons, insT_map r x]
    · rfl
omit [Inhabited α] in
theorem sortT_map (l : List α) : (sortT rc l).map rc = sortM (l.map rc) := by
  unfold sortT sortM
  suffices ∀ (l a : List α) (b : List Rc), a.map rc = b → (l.foldl (insT rc) a).map rc = (l.map rc).foldl insS b from this l [] [] rfl
  intro l
  induction l with
  | nil => intro a b h; exact h
  | cons x l ih => intro a b h; exact ih _ _ (by rw [insT_map, h])
omit [Inhabited α] in
theorem insT_perm : ∀ (l : List α) (x : α), (insT rc l x).Perm (x :: l)
  | [], x => List.Perm.refl _
  | y :: r, x => by
    simp only [insT]
    split
    · exact ((insT_perm r x).cons y).trans (List.Perm.swap x y r)
    · exact List.Perm.refl _
def cfR (x y : α) : Int := compareR (rc x) (rc y)
omit [Inhabited α] in
theorem cord_cfR : COrd (cfR rc) := cord_on cord_compareR rc
omit [Inhabited α] in
theorem insT_rises : ∀ (l : List α) (x : α), l.Pairwise (Lx (cfR rc) tg) → (∀ y ∈ l, tg y < tg x) → (insT rc l x).Pairwise (Lx (cfR rc) tg)
  | [], x, _, _ => by simp [insT]
  | y :: r, x, h, ht => by
    have p := List.pairwise_cons.1 h
    simp only [insT]
    split
    · rename_i c
      have hyx : Lx (cfR rc) tg y x := by
        have := ht y (by simp)
        unfold Lx cfR; omega
      refine List.pairwise_cons.2 ⟨fun z hz => ?_, insT_rises r x p.2 (fun y hy => ht y (by simp [hy]))⟩
      rcases List.mem_cons.1 ((insT_perm rc r x).mem_iff.1 hz) with rfl | hz
      · exact hyx
      · exact p.1 z hz
    · rename_i c
      have hxy : Lx (cfR rc) tg x y := by
        have := (cord_cfR rc).anti x y
        unfold Lx; unfold cfR at *; omega
      refine List.pairwise_cons.2 ⟨fun z hz => ?_, h⟩
      rcases List.mem_cons.1 hz with rfl | hz
      · exact hxy
      · exact hxy.trans (cord_cfR rc) (p.1 z hz)
omit [Inhabited α] in
theorem sortT_rises (l : List α) (ht : l.Pairwise fun a b => tg a < tg b) : (sortT rc l).Pairwise (Lx (cfR rc) tg) ∧ (sortT rc l).Perm l := by
  unfold sortT
  suffices ∀ (l a : List α), a.Pairwise (Lx (cfR rc) tg) → (∀ x ∈ l, ∀ y ∈ a, tg y < tg x) → l.Pairwise (fun a b => tg a < tg b) → (l.foldl (insT rc) a).Pairwise (Lx (cfR rc) tg) ∧ (l.foldl (insT rc) a).Perm (l ++ a) from by
    have := this l [] List.Pairwise.nil (by simp) ht
    simpa using this
  intro l
  induction l with
  | nil => intro a h _ _; exact ⟨h, List.Perm.refl _⟩
  | cons x l ih =>
    intro a h h2 h3
    have p := List.pairwise_cons.1 h3
    have := ih (insT rc a x) (insT_rises rc tg a x h (h2 x (by simp))) (fun z hz y hy => by
      rcases List.mem_cons.1 ((insT_perm rc a x).mem_iff.1 hy) with rfl | hy
      · exact p.1 z hz
      · exact h2 z (by simp [hz]) y hy) p.2
    refine ⟨this.1, this.2.trans ?_⟩
    exact ((insT_perm rc a x).append_left l).trans (List.perm_middle)
end
theorem get_toList {α : Type} [Inhabited α] (x : Array α) (i : Nat) (h : i < x.toList.length) : x[i]! = x.toList[i] := by
  have h' : i < x.size := by simpa using h
  rw [getElem!_pos x i h', Array.getElem_toList]
theorem extract_all {α : Type} (x : Array α) (n : Nat) (h : x.size = n) : (x.extract 0 n).toList = x.toList := by
  subst h; simp
/-- The sorted row. -/
theorem sorted_is {α : Type} [Inhabited α] (rc : α → Rc) (tg : α → Nat) {d d' : Array α} (ht : ∀ i, i < d.size → tg d[i]! = i) (hp : PermIn 0 d.size d d') (hr : Rise (cfR rc) tg 0 d.size d') : d'.toList.map rc = sortM (d.toList.map rc) := by
  obtain ⟨hs, _, h1⟩ := hp
  rw [extract_all d' d.size hs, extract_all d d.size rfl] at h1
  have h2 : d'.toList.Pairwise (Lx (cfR rc) tg) := by
    refine List.pairwise_iff_getElem.2 ?_
    intro i j hi hj hij
    have h := hr i j (Nat.zero_le _) hij (by rw [← hs]; simpa using hj)
    rw [get_toList d' i hi, get_toList d' j hj] at h
    exact h
  have h3 : d.toList.Pairwise fun a b => tg a < tg b := by
    refine List.pairwise_iff_getElem.2 ?_
    intro i j hi hj hij
    have e1 := ht i (by simpa using hi)
    have e2 := ht j (by simpa using hj)
    rw [get_toList d i hi] at e1
    rw [get_toList d j hj] at e2
    omega
  obtain ⟨h4, h5⟩ := sortT_rises rc tg d.toList h3
  have h6 := eq_of_perm_strict (R := Lx (cfR rc) tg) (fun _ _ _ a b => Lx.trans (cord_cfR rc) a b) (fun x => Lx.irrefl (cord_cfR rc) x) d'.toList (sortT rc d.toList) (h1.trans h5.symm) h2 h4
  rw [← sortT_map, h6]
end Go.Proofs.Ytckammgnmgkieaa

/-
  Slices whose elements have k cells, wherever they lie; slices.Clone of them.
-/
namespace Go.Proofs.Ytckammgnmgkieaa
set_option maxRecDepth 20000
open Go.RowKit Go.Shelf
set_option maxRecDepth 20000
set_option linter.unusedVariables false
set_option linter.unusedSimpArgs false

/-- The slice value v reads as these elements, each by its cells. -/
def SlK (W : World) (v : Value) (css : List (List Value)) : Prop :=
  ∃ a c, v = .slice a css.length c ∧ css.length ≤ c ∧ (a = none → c = 0) ∧ (css = [] ∨ ∃ b off, a = some ⟨b, off, none⟩ ∧ b < W.heap.size ∧ ∀ j u, css.flatten[j]? = some u → W.cell? ⟨b, off + j, none⟩ = some u)
theorem SlK.below {W W' : World} {v : Value} {css : List (List Value)} (h : SlK W v css) (hb : Below W.heap.size W W') : SlK W' v css := by
  obtain ⟨a, c, e, h1, h2, h⟩ := h
  refine ⟨a, c, e, h1, h2, ?_⟩
  rcases h with h | ⟨b, off, ea, hlt, hc⟩
  · exact .inl h
  · exact .inr ⟨b, off, ea, Nat.lt_of_lt_of_le hlt hb.size, fun j u hj => (hb.cell (p := ⟨b, off + j, none⟩) hlt).trans (hc j u hj)⟩
theorem SlK.nil (W : World) : SlK W (.slice none 0 0) [] := ⟨none, 0, rfl, Nat.le_refl _, fun _ => rfl, .inl rfl⟩
theorem slK_one {W : World} {v : Value} {xs : List Value} (h : SlAt W v xs) : SlK W v (xs.map fun x => [x]) := by
  obtain ⟨a, c, e, h1, h2, h⟩ := h
  refine ⟨a, c, by rw [List.length_map]; exact e, by rw [List.length_map]; exact h1, h2, ?_⟩
  have hf : ∀ xs : List Value, (xs.map fun x => [x]).flatten = xs := fun xs => by
    induction xs with
    | nil => rfl
    | cons x r ih => rw [List.map_cons, List.flatten_cons, ih]; rfl
  rcases h with h | ⟨b, off, ea, hlt, hc⟩
  · subst h; exact .inl rfl
  · refine .inr ⟨b, off, ea, hlt, fun j u hj => ?_⟩
    rw [hf] at hj
    obtain ⟨hj1, hj2⟩ := List.getElem?_eq_some_iff.1 hj
    rw [← hj2]; exact hc j hj1
abbrev OwnC (k : Nat) (T : TypeId) (W : World) (base : Nat) (v : Value) (css : List (List Value)) : Prop := OwnK k T (fun cs : List Value => cs) W base v css
theorem flat_id (css : List (List Value)) : css.flatMap (fun cs => cs) = css.flatten := by simp [List.flatMap]
theorem flat_len {k : Nat} : ∀ (css : List (List Value)), (∀ cs ∈ css, cs.length = k) → css.flatten.length = css.length * k
  | [], _ => by simp
  | c :: r, h => by
    rw [List.flatten_cons, List.length_append, h c (by simp), flat_len r (fun x hx => h x (by simp [hx])), List.length_cons, Nat.succ_mul]; omega
theorem SlK.of_own {k : Nat} {T : TypeId} {W : World} {base : Nat} {v : Value} {css : List (List Value)} (h : OwnC k T W base v css) (hk : ∀ cs ∈ css, cs.length = k) : SlK W v css := by
  rcases h.2 with ⟨rfl, h0⟩ | ⟨g, cap, cur, rfl, hb, hg, hc, hm, hsz, htk⟩
  · obtain rfl := List.eq_nil_of_length_eq_zero h0
    exact SlK.nil W
  · refine ⟨_, _, rfl, hc, (fun e => by cases e), .inr ⟨g, 0, rfl, (Array.getElem?_eq_some_iff.1 hg).1, fun j u hj => ?_⟩⟩
    have hl := flat_len css hk
    have hj' : j < css.length * k := by rw [← hl]; exact (List.getElem?_eq_some_iff.1 hj).1
    have h3 : cur.toList[j]? = some u := by
      have : (cur.toList.take (css.length * k))[j]? = some u := by rw [htk, flat_id]; exact hj
      rw [List.getElem?_take, if_pos hj'] at this
      exact this
    simp only [World.cell?, hg, Nat.zero_add]
    simpa using h3
/-- append of a whole slice to one of the call's own. -/
theorem wpl_append_slk {S T : TypeId} {k bytes : Nat} {ops : Array Oper} {rest : List Oper} {o : Oper} {a : Act} {Q : Exit → Act → World → Prop} (W : World) (hgd : o.guard = none) (s x : Operand) (hE : ElemK k T S bytes) (hk0 : 0 < k)
    (ho : o.op = .call { callee := .builtin .append, args := #[s, x], argTypes := #[S, S] })
    (base : Nat) (v : Value) (xs : List (List Value)) (hs : a.eval s = v) (hown : OwnC k T W base v xs)
    (src : Value) (ys : List (List Value)) (hx : a.eval x = src) (hsrc : SlK W src ys) (hyk : ∀ cs ∈ ys, cs.length = k) (hy1 : ∀ cs ∈ ys, ∀ u ∈ cs, u.oneCell' = true)
    (hbase : base ≤ W.heap.size) (hk : xs.length + ys.length ≤ maxLen) (hk2 : (xs.length + ys.length) * bytes ≤ 140737488355328)
    (h : ∀ v' w', OwnC k T w' base v' (xs ++ ys) → W.grownBy w' v.ownBlock → wpList Try.prog ops Q rest (a.put o.dst v') w') :
    wpList Try.prog ops Q (o :: rest) a W := by
  obtain ⟨ht, i, z, hi, hz, hz1, hz2, hzc⟩ := hE
  obtain ⟨a0, c0, rfl, h1, h2, h3⟩ := hsrc
  have hlen := flat_len ys hyk
  cases a0 with
  | none =>
    have e3 := h2 rfl
    subst e3
    have e4 : ys = [] := List.eq_nil_of_length_eq_zero (by omega)
    subst e4
    refine wpList_append_own_none hgd s x S ho base _ i k ht hi v _ _ hs hown hx ?_
    exact h v W (by rw [List.append_nil]; exact hown) ⟨rfl, rfl, rfl, Nat.le_refl _, fun _ _ _ => rfl⟩
  | some ad =>
    have hcell : ∀ j u, ys.flatten[j]? = some u → W.cell? (ad.add j) = some u := by
      intro j u hj
      rcases h3 with h3 | ⟨b, off, ea, _, hc⟩
      · subst h3; simp at hj
      · cases ea; rw [Addr.add_lit]; exact hc j u hj
    refine wpList_append_own _ hgd s x S ho base _ i z k bytes ht hi hz hz1 hz2 hzc hk0 v xs.length (xs.flatMap fun cs => cs) hs hown ad ys.length c0 ys.flatten hx hlen hcell (by intro u hu; obtain ⟨y, hy, hu⟩ := List.mem_flatten.1 hu; exact hy1 y hy u hu) hk hk2 hbase ?_
    intro v' w' g1 g2 _
    refine h v' w' ?_ g2
    unfold OwnC OwnK
    rw [List.length_append, List.flatMap_append, flat_id ys]
    exact g1
theorem ownC_lit (k : Nat) (T : TypeId) (w : World) : OwnC k T (w.alloc (.cells #[] T)) w.heap.size (.slice (some ⟨w.heap.size, 0, none⟩) 0 0) [] := World.ownsRow_made w #[] 0 (Nat.le_refl _) (Nat.zero_le _) (by simp)

theorem elem_rec : ElemK 7 33 24 136 := ⟨Try.underlying24, _, _, rfl, rfl, rfl, rfl, rfl⟩
set_option maxHeartbeats 2000000 in
theorem clone_rec (v : Value) (css : List (List Value)) (w : World) (hA : SlK w v css) (hk : ∀ cs ∈ css, cs.length = 7) (h1 : ∀ cs ∈ css, ∀ u ∈ cs, u.oneCell' = true) (hl : css.length ≤ 1000000000000) :
    Calls Try.prog 63 #[v] w fun e w' => ∃ v', e = .returned v' ∧ OwnC 7 33 w' w.heap.size v' css ∧ Below w.heap.size w w' := by
  obtain ⟨a, c, rfl, hc1, hc2, hx⟩ := id hA
  cases a with
  | none =>
    have hnil : css = [] := List.eq_nil_of_length_eq_zero (by have := hc2 rfl; omega)
    subst hnil
    obtain rfl := hc2 rfl
    clear hc2 hx
    have q := fun w => Lib.run_eql_slice_nil (P := Try.prog) w 24 _ none 0 0 0 0 Try.underlying24
    go_enter Try.func63, Try.ntmps63
    go_wp2
    go_ret
    exact ⟨_, rfl, OwnK.nil _ _, Below.refl _ _⟩
  | some ad =>
    have hlit := ownC_lit 7 33 w
    have q := fun w => Lib.run_eql_slice_nil (P := Try.prog) w 24 _ (some ad) css.length c 0 0 Try.underlying24
    go_enter Try.func63, Try.ntmps63
    go_wp2_with (at_builtin; refine wpl_append_slk (w.alloc (.cells #[] 33)) rfl (.tmp 5) (.tmp 6) elem_rec (by decide) rfl w.heap.size _ [] rfl hlit _ css rfl (hA.below ((Below.refl _ w).alloc (Nat.le_refl _) _)) hk h1 (by simp) (by unfold maxLen; simp; omega) (by simp; omega) ?_; intro v' w' hown' hg')
    go_ret
    exact ⟨v', rfl, hown', ((Below.refl _ w).alloc (Nat.le_refl _) _).grown hg' (by simp) hlit.base_le⟩

theorem elem_u32 : ElemK 1 26 28 4 := ⟨Try.underlying28, _, _, rfl, rfl, rfl, rfl, rfl⟩
set_option maxHeartbeats 2000000 in
theorem clone_u32 (v : Value) (css : List (List Value)) (w : World) (hA : SlK w v css) (hk : ∀ cs ∈ css, cs.length = 1) (h1 : ∀ cs ∈ css, ∀ u ∈ cs, u.oneCell' = true) (hl : css.length ≤ 1000000000000) :
    Calls Try.prog 67 #[v] w fun e w' => ∃ v', e = .returned v' ∧ OwnC 1 26 w' w.heap.size v' css ∧ Below w.heap.size w w' := by
  obtain ⟨a, c, rfl, hc1, hc2, hx⟩ := id hA
  cases a with
  | none =>
    have hnil : css = [] := List.eq_nil_of_length_eq_zero (by have := hc2 rfl; omega)
    subst hnil
    obtain rfl := hc2 rfl
    clear hc2 hx
    have q := fun w => Lib.run_eql_slice_nil (P := Try.prog) w 28 _ none 0 0 0 0 Try.underlying28
    go_enter Try.func67, Try.ntmps67
    go_wp2
    go_ret
    exact ⟨_, rfl, OwnK.nil _ _, Below.refl _ _⟩
  | some ad =>
    have hlit := ownC_lit 1 26 w
    have q := fun w => Lib.run_eql_slice_nil (P := Try.prog) w 28 _ (some ad) css.length c 0 0 Try.underlying28
    go_enter Try.func67, Try.ntmps67
    go_wp2_with (at_builtin; refine wpl_append_slk (w.alloc (.cells #[] 26)) rfl (.tmp 5) (.tmp 6) elem_u32 (by decide) rfl w.heap.size _ [] rfl hlit _ css rfl (hA.below ((Below.refl _ w).alloc (Nat.le_refl _) _)) hk h1 (by simp) (by unfold maxLen; simp; omega) (by simp; omega) ?_; intro v' w' hown' hg')
    go_ret
    exact ⟨v', rfl, hown', ((Below.refl _ w).alloc (Nat.le_refl _) _).grown hg' (by simp) hlit.base_le⟩

theorem elem_str : ElemK 1 9 22 16 := ⟨Try.underlying22, _, _, rfl, rfl, rfl, rfl, rfl⟩
set_option maxHeartbeats 2000000 in
theorem clone_str (v : Value) (css : List (List Value)) (w : World) (hA : SlK w v css) (hk : ∀ cs ∈ css, cs.length = 1) (h1 : ∀ cs ∈ css, ∀ u ∈ cs, u.oneCell' = true) (hl : css.length ≤ 1000000000000) :
    Calls Try.prog 68 #[v] w fun e w' => ∃ v', e = .returned v' ∧ OwnC 1 9 w' w.heap.size v' css ∧ Below w.heap.size w w' := by
  obtain ⟨a, c, rfl, hc1, hc2, hx⟩ := id hA
  cases a with
  | none =>
    have hnil : css = [] := List.eq_nil_of_length_eq_zero (by have := hc2 rfl; omega)
    subst hnil
    obtain rfl := hc2 rfl
    clear hc2 hx
    have q := fun w => Lib.run_eql_slice_nil (P := Try.prog) w 22 _ none 0 0 0 0 Try.underlying22
    go_enter Try.func68, Try.ntmps68
    go_wp2
    go_ret
    exact ⟨_, rfl, OwnK.nil _ _, Below.refl _ _⟩
  | some ad =>
    have hlit := ownC_lit 1 9 w
    have q := fun w => Lib.run_eql_slice_nil (P := Try.prog) w 22 _ (some ad) css.length c 0 0 Try.underlying22
    go_enter Try.func68, Try.ntmps68
    go_wp2_with (at_builtin; refine wpl_append_slk (w.alloc (.cells #[] 9)) rfl (.tmp 5) (.tmp 6) elem_str (by decide) rfl w.heap.size _ [] rfl hlit _ css rfl (hA.below ((Below.refl _ w).alloc (Nat.le_refl _) _)) hk h1 (by simp) (by unfold maxLen; simp; omega) (by simp; omega) ?_; intro v' w' hown' hg')
    go_ret
    exact ⟨v', rfl, hown', ((Below.refl _ w).alloc (Nat.le_refl _) _).grown hg' (by simp) hlit.base_le⟩

theorem elem_byte : ElemK 1 5 29 1 := ⟨Try.underlying29, _, _, rfl, rfl, rfl, rfl, rfl⟩
set_option maxHeartbeats 2000000 in
theorem clone_byte (v : Value) (css : List (List Value)) (w : World) (hA : SlK w v css) (hk : ∀ cs ∈ css, cs.length = 1) (h1 : ∀ cs ∈ css, ∀ u ∈ cs, u.oneCell' = true) (hl : css.length ≤ 1000000000000) :
    Calls Try.prog 69 #[v] w fun e w' => ∃ v', e = .returned v' ∧ OwnC 1 5 w' w.heap.size v' css ∧ Below w.heap.size w w' := by
  obtain ⟨a, c, rfl, hc1, hc2, hx⟩ := id hA
  cases a with
  | none =>
    have hnil : css = [] := List.eq_nil_of_length_eq_zero (by have := hc2 rfl; omega)
    subst hnil
    obtain rfl := hc2 rfl
    clear hc2 hx
    have q := fun w => Lib.run_eql_slice_nil (P := Try.prog) w 29 _ none 0 0 0 0 Try.underlying29
    go_enter Try.func69, Try.ntmps69
    go_wp2
    go_ret
    exact ⟨_, rfl, OwnK.nil _ _, Below.refl _ _⟩
  | some ad =>
    have hlit := ownC_lit 1 5 w
    have q := fun w => Lib.run_eql_slice_nil (P := Try.prog) w 29 _ (some ad) css.length c 0 0 Try.underlying29
    go_enter Try.func69, Try.ntmps69
    go_wp2_with (at_builtin; refine wpl_append_slk (w.alloc (.cells #[] 5)) rfl (.tmp 5) (.tmp 6) elem_byte (by decide) rfl w.heap.size _ [] rfl hlit _ css rfl (hA.below ((Below.refl _ w).alloc (Nat.le_refl _) _)) hk h1 (by simp) (by unfold maxLen; simp; omega) (by simp; omega) ?_; intro v' w' hown' hg')
    go_ret
    exact ⟨v', rfl, hown', ((Below.refl _ w).alloc (Nat.le_refl _) _).grown hg' (by simp) hlit.base_le⟩
end Go.Proofs.Ytckammgnmgkieaa

/-
  Data: what they may be, as plain functions and facts.
-/
namespace Go.Proofs.Ytckammgnmgkieaa
set_option maxRecDepth 20000
open Go.RowKit Go.Shelf

/-! ### scanning by steps -/
section
variable (f : List UInt8 → List UInt8 × Nat × Int)
/-- A step reads something from the front: what, how many octets, an error. -/
def gscanM : Nat → List UInt8 → List UInt8 × Int
  | _, [] => ([], 0)
  | 0, _ :: _ => ([], 2)
  | n + 1, x :: r =>
    if (f (x :: r)).2.2 = 0 then
      (if (gscanM n ((x :: r).drop (f (x :: r)).2.1)).2 = 0 then ((f (x :: r)).1 ++ (gscanM n ((x :: r).drop (f (x :: r)).2.1)).1, 0) else ([], (gscanM n ((x :: r).drop (f (x :: r)).2.1)).2))
    else ([], (f (x :: r)).2.2)
def gscan (l : List UInt8) : List UInt8 × Int := gscanM f l.length l
def GStep : Prop := ∀ l, l ≠ [] → (f l).2.2 = 0 → 1 ≤ (f l).2.1 ∧ (f l).2.1 ≤ l.length
variable {f}
theorem gscanM_fuel (hf : GStep f) : ∀ (n : Nat) (l : List UInt8), l.length ≤ n → gscanM f n l = gscan f l := by
  intro n
  induction n using Nat.strongRecOn with
  | _ n ih =>
    intro l hl
    match l, n with
    | [], _ => simp [gscanM, gscan]
    | x :: r, 0 => simp at hl
    | x :: r, n + 1 =>
      unfold gscan
      simp only [List.length_cons, gscanM]
      by_cases h : (f (x :: r)).2.2 = 0
      · have hs := hf _ (by simp) h
        have hd : ((x :: r).drop (f (x :: r)).2.1).length ≤ r.length := by simp at hs ⊢; omega
        simp only [List.length_cons] at hl
        have e1 := ih n (by omega) _ (Nat.le_trans hd (by omega))
        rw [e1]
        by_cases hn : r.length = n
        · rw [hn, e1]
        · rw [ih r.length (by omega) _ hd]
      · simp [h]
theorem gscanM_clean (n : Nat) (l : List UInt8) (h : (gscanM f n l).2 ≠ 0) : (gscanM f n l).1 = [] := by
  match n, l with
  | _, [] => simp [gscanM]
  | 0, _ :: _ => simp [gscanM]
  | n + 1, x :: r =>
    simp only [gscanM] at h ⊢
    by_cases h1 : (f (x :: r)).2.2 = 0
    · by_cases h2 : (gscanM f n ((x :: r).drop (f (x :: r)).2.1)).2 = 0
      · simp [h1, h2] at h
      · simp [h1, h2]
    · simp [h1]
theorem gscan_nil : gscan f [] = ([], 0) := rfl
theorem gscan_err {l : List UInt8} (h0 : l ≠ []) (h : (f l).2.2 ≠ 0) : gscan f l = ([], (f l).2.2) := by
  match l, h0 with
  | x :: r, _ => unfold gscan; simp only [List.length_cons, gscanM]; rw [if_neg h]
theorem gscan_ok (hf : GStep f) {l : List UInt8} (h0 : l ≠ []) (h : (f l).2.2 = 0) : gscan f l = join (f l).1 (gscan f (l.drop (f l).2.1)) := by
  match l, h0 with
  | x :: r, _ =>
    have hs := hf (x :: r) (by simp) h
    have hd : ((x :: r).drop (f (x :: r)).2.1).length ≤ r.length := by simp at hs ⊢; omega
    have e : gscan f (x :: r) = gscanM f (r.length + 1) (x :: r) := rfl
    rw [e, gscanM, if_pos h, gscanM_fuel hf _ _ hd]
    unfold join; simp
theorem gjoin_nil (l : List UInt8) : gscan f l = join [] (gscan f l) := by
  unfold join
  by_cases h : (gscan f l).2 = 0
  · rw [if_pos h, List.nil_append, ← h]
  · rw [if_neg h, ← gscanM_clean (f := f) l.length l h]; rfl
end

/-! ### texts -/
def tSize (l : List UInt8) : Nat := min (match l with | _ :: y :: _ => if digitU y then 4 else 2 | _ => 2) l.length
def tStep (l : List UInt8) : List UInt8 × Nat × Int :=
  match l with
  | [] => ([], 0, 2)
  | x :: r => if x ≠ 92 then ([x], 1, 0) else ((parseM ((x :: r).take (tSize (x :: r)))).1, tSize (x :: r), (parseM ((x :: r).take (tSize (x :: r)))).2)
theorem tStep_ok : GStep tStep := by
  intro l h0 _
  match l, h0 with
  | x :: r, _ =>
    have e : tStep (x :: r) = if x ≠ 92 then ([x], 1, 0) else ((parseM ((x :: r).take (tSize (x :: r)))).1, tSize (x :: r), (parseM ((x :: r).take (tSize (x :: r)))).2) := rfl
    rw [e]
    by_cases h : x ≠ 92
    · rw [if_pos h]; exact ⟨Nat.le_refl _, by simp⟩
    · rw [if_neg h]
      have h2 : 1 ≤ tSize (x :: r) ∧ tSize (x :: r) ≤ (x :: r).length := by
        unfold tSize
        refine ⟨?_, Nat.min_le_right _ _⟩
        rw [Nat.le_min]
        refine ⟨?_, by simp⟩
        split <;> first | omega | (split <;> omega)
      exact h2
def readTextM (l : List UInt8) : List UInt8 × Int := if (gscan tStep l).2 = 0 then (if 255 < (gscan tStep l).1.length then ([], 3) else ((gscan tStep l).1, 0)) else ([], (gscan tStep l).2)
def quoteW (c : UInt8) : List UInt8 := if c = 34 ∨ c = 92 then [92, c] else if c.toNat < 32 ∨ 126 < c.toNat then octetEsc c else [c]
def quotedM (l : List UInt8) : List UInt8 := 34 :: (l.flatMap quoteW ++ [34])

/-! ### hexadecimal digits -/
def hexU (c : UInt8) : Option Nat :=
  if 48 ≤ c.toNat ∧ c.toNat ≤ 57 then some (c.toNat - 48) else if 97 ≤ c.toNat ∧ c.toNat ≤ 102 then some (c.toNat - 97 + 10) else if 65 ≤ c.toNat ∧ c.toNat ≤ 70 then some (c.toNat - 65 + 10) else none
def hexC (n : Nat) : UInt8 := if n < 10 then UInt8.ofNat (48 + n) else UInt8.ofNat (97 + (n - 10))
theorem hexU_lt {c : UInt8} {v : Nat} (h : hexU c = some v) : v < 16 := by
  unfold hexU at h
  split at h
  · cases h; omega
  split at h
  · cases h; omega
  split at h
  · cases h; omega
  · cases h
def hexV (c : UInt8) : Nat := (hexU c).getD 0
def hexB (c : UInt8) : Bool := (hexU c).isSome
theorem hexV_lt (c : UInt8) : hexV c < 16 := by
  unfold hexV
  cases h : hexU c with
  | none => simp
  | some v => exact hexU_lt h
def hexW (c : UInt8) : UInt8 := UInt8.ofNat (hexV c)
/-- Pairs of halves as octets. -/
def pairUp : List UInt8 → List UInt8
  | a :: b :: r => UInt8.ofNat (16 * a.toNat + b.toNat) :: pairUp r
  | _ => []
abbrev Wd := List UInt8 × Bool
def halvesOK (l : List Wd) : Bool := l.all fun x => !x.2 && x.1.all hexB
def halvesL (l : List Wd) : List UInt8 := l.flatMap fun x => x.1.map hexW

/-! ### what data may be -/
def countedM (d : Dat) : Bool := decide (d.names.length = (countsM d.ty).1 ∧ d.nums.length = (countsM d.ty).2.1 ∧ (if d.ty = 16 then 1 ≤ d.texts.length ∧ d.texts.length ≤ 32 else d.texts.length = 0) ∧ (0 ≤ (countsM d.ty).2.2 → (d.raw.length : Int) = (countsM d.ty).2.2))
def checkNs : List Nm → Int
  | [] => 0
  | n :: r => if checkN n = 0 then checkNs r else checkN n
def longT (l : Nm) : Bool := l.any fun s => decide (255 < s.length)
def checkD (d : Dat) : Int :=
  if d.ty < 1 ∨ 65535 < d.ty then 6 else if countedM d = false then 2 else if checkNs d.names ≠ 0 then checkNs d.names
  else if d.ty = 15 ∧ 65535 < d.nums.headD 0 then 7 else if longT d.texts then 3 else if 1024 < d.raw.length then 3 else 0
theorem checkNs_snoc (l : List Nm) (n : Nm) : checkNs (l ++ [n]) = if checkNs l = 0 then checkN n else checkNs l := by
  induction l with
  | nil => simp only [List.nil_append, checkNs, if_true]; split <;> simp_all
  | cons x r ih =>
    have e : ∀ l, checkNs (x :: l) = if checkN x = 0 then checkNs l else checkN x := fun _ => rfl
    rw [List.cons_append]
    by_cases h : checkN x = 0
    · have e1 : ∀ l, checkNs (x :: l) = checkNs l := fun l => by rw [e, if_pos h]
      rw [e1, e1, ih]
    · have e1 : ∀ l, checkNs (x :: l) = checkN x := fun l => by rw [e, if_neg h]
      rw [e1, e1, if_neg h]
theorem checkNs_stop {a p : List Nm} (h : p <+: a) (hp : checkNs p ≠ 0) : checkNs a = checkNs p := by
  obtain ⟨t, rfl⟩ := h
  induction p with
  | nil => exact absurd rfl hp
  | cons x r ih =>
    simp only [List.cons_append, checkNs] at hp ⊢
    by_cases h : checkN x = 0
    · rw [if_pos h] at hp ⊢; rw [if_pos h]; exact ih hp
    · rw [if_neg h, if_neg h]

/-! ### words -/
def formD (t : Int) (n : Nat) : List UInt8 :=
  if t = 1 then [52] else if t = 28 then [54] else if t = 2 ∨ t = 5 ∨ t = 12 ∨ t = 39 then [110] else if t = 15 then [112, 110] else if t = 6 then [110, 110, 117, 117, 117, 117, 117]
  else if t = 16 ∧ n ≤ 32 then List.replicate n 116 else []
/-- A text at each of an octet. -/
def splitAtU (sep : UInt8) : List UInt8 → List (List UInt8)
  | [] => [[]]
  | c :: r => if c = sep then [] :: splitAtU sep r else match splitAtU sep r with | [] => [[c]] | x :: t => (c :: x) :: t
def addrsM : List (List UInt8) → List UInt8 × Int
  | [] => ([], 0)
  | p :: r => if (numM p 255).2 ≠ 0 then ([], (numM p 255).2) else if (addrsM r).2 = 0 then (UInt8.ofNat (numM p 255).1 :: (addrsM r).1, 0) else ([], (addrsM r).2)
def addressM (s : List UInt8) : List UInt8 × Int := if (splitAtU 46 s).length = 4 then addrsM (splitAtU 46 s) else ([], 2)
def groupV (l : List UInt8) : Nat := l.foldl (fun n c => 16 * n + hexV c) 0
def groupsR : List (List UInt8) → List UInt8 × Int
  | [] => ([], 0)
  | p :: r => if p.length < 1 ∨ 4 < p.length ∨ p.all hexB = false then ([], 2)
    else if (groupsR r).2 = 0 then (UInt8.ofNat (groupV p / 256) :: UInt8.ofNat (groupV p % 256) :: (groupsR r).1, 0) else ([], (groupsR r).2)
def groupsM (s : List UInt8) : List UInt8 × Int := if (splitAtU 58 s).length = 8 then groupsR (splitAtU 58 s) else ([], 2)
def errD (k : UInt8) (s : List UInt8) (o : Nm) : Int :=
  if k = 110 then (parseN s o).2 else if k = 117 then (numM s 4294967295).2 else if k = 112 then (numM s 65535).2 else if k = 116 then (readTextM s).2 else if k = 52 then (addressM s).2 else if k = 54 then (groupsM s).2 else 0
def addD (d : Dat) (k : UInt8) (s : List UInt8) (o : Nm) : Dat :=
  if k = 110 then { d with names := d.names ++ [(parseN s o).1] } else if k = 117 then { d with nums := d.nums ++ [(numM s 4294967295).1] } else if k = 112 then { d with nums := d.nums ++ [(numM s 65535).1] }
  else if k = 116 then { d with texts := d.texts ++ [(readTextM s).1] } else if k = 52 then { d with raw := (addressM s).1 } else if k = 54 then { d with raw := (groupsM s).1 } else d
def wordsD (d : Dat) (o : Nm) : List UInt8 → List Wd → Dat × Int
  | k :: ks, (s, q) :: l => if q ∧ k ≠ 116 then (d, 2) else if errD k s o ≠ 0 then (d, errD k s o) else wordsD (addD d k s o) o ks l
  | _, _ => (d, 0)
def octetsD (t : Int) (l : List Wd) : List UInt8 × Int :=
  if knownM t ∧ ¬ (t = 1 ∨ t = 28) then ([], 6) else match l with
  | [] => ([], 2)
  | (s, q) :: r => if q then ([], 2) else if (numM s 4294967295).2 ≠ 0 then ([], (numM s 4294967295).2) else if 1024 < (numM s 4294967295).1 then ([], 3) else
    if halvesOK r = false ∨ (halvesL r).length ≠ 2 * (numM s 4294967295).1 then ([], 2) else if (t = 1 ∧ (numM s 4294967295).1 ≠ 4) ∨ (t = 28 ∧ (numM s 4294967295).1 ≠ 16) then ([], 2) else (pairUp (halvesL r), 0)
def Dat.of (t : Int) : Dat := ⟨t, [], [], [], []⟩
def parseD (t : Int) (l : List Wd) (o : Nm) : Dat × Int :=
  if t < 1 ∨ 65535 < t then (Dat.none, 6) else
  if l.head? = some ([92, 35], false) then (if (octetsD t (l.drop 1)).2 = 0 then (⟨t, [], [], [], (octetsD t (l.drop 1)).1⟩, 0) else (Dat.none, (octetsD t (l.drop 1)).2))
  else if formD t l.length = [] ∨ (formD t l.length).length ≠ l.length then (Dat.none, 2)
  else if (wordsD (Dat.of t) o (formD t l.length) l).2 = 0 then ((wordsD (Dat.of t) o (formD t l.length) l).1, 0) else (Dat.none, (wordsD (Dat.of t) o (formD t l.length) l).2)

/-! ### data in words -/
def sepBy (sep : List UInt8) : List (List UInt8) → List UInt8
  | [] => []
  | [x] => x
  | x :: y :: r => x ++ sep ++ sepBy sep (y :: r)
/-- A number's hexadecimal digits, at least one. -/
def hexD (n : Nat) : List UInt8 := if _h : n < 16 then [hexC n] else hexD (n / 16) ++ [hexC (n % 16)]
termination_by n
decreasing_by omega
def hexes : List UInt8 → List (List UInt8)
  | a :: b :: r => hexD (256 * a.toNat + b.toNat) :: hexes r
  | _ => []
def hex2 (c : UInt8) : List UInt8 := [hexC (c.toNat / 16), hexC (c.toNat % 16)]
def octetWordsM (raw : List UInt8) : List UInt8 := [92, 35, 32] ++ Lib.decDigits raw.length ++ (if raw = [] then [] else 32 :: raw.flatMap hex2)
def textD (d : Dat) : List UInt8 :=
  if d.ty = 1 then sepBy [46] (d.raw.map fun c => Lib.decDigits c.toNat)
  else if d.ty = 28 then sepBy [58] (hexes d.raw)
  else if d.ty = 2 ∨ d.ty = 5 ∨ d.ty = 12 ∨ d.ty = 39 ∨ d.ty = 6 then sepBy [32] (d.names.map textN ++ d.nums.map Lib.decDigits)
  else if d.ty = 15 then sepBy [32] (d.nums.map Lib.decDigits ++ d.names.map textN)
  else if d.ty = 16 then sepBy [32] (d.texts.map quotedM)
  else octetWordsM d.raw

end Go.Proofs.Ytckammgnmgkieaa

/-
  rdata: digitOf, counted.
-/
namespace Go.Proofs.Ytckammgnmgkieaa
set_option maxRecDepth 20000
open Go.RowKit Go.Shelf

theorem hex_fin {c : UInt8} {w : World} {e : Ending} (v : Int) (b : Bool) (h : (hexU c = none ∧ v = 0 ∧ b = false) ∨ ∃ n : Nat, hexU c = some n ∧ v = n ∧ b = true) (he : e = .returned (.tuple #[.int .i64 v, .bool b])) :
    e = .returned (.tuple #[.int .i64 (hexV c : Int), .bool (hexB c)]) ∧ w = w := by
  subst he
  refine ⟨?_, rfl⟩
  unfold hexV hexB
  rcases h with ⟨h, rfl, rfl⟩ | ⟨n, h, rfl, rfl⟩ <;> rw [h] <;> rfl
end Go.Proofs.Ytckammgnmgkieaa

/-
  Package rtype: Text, Known, Parse.
-/
namespace Go.Proofs.Ytckammgnmgkieaa
set_option maxRecDepth 20000
open Go.RowKit Go.Shelf

/-- The library's table of powers of ten lies as its text lays it. -/
def Tab (W : World) : Prop := Lib.TabIs Try.prog W "internal/strconv.uint64pow10" .u64 Lib.pow10Tab
theorem Tab.below {W W' : World} (h : Tab W) (hb : Below W.heap.size W W') : Tab W' := (Lib.tabBelow_of_tabIs h) W' hb
theorem itoa_len (n : Int) (h0 : -9223372036854775808 ≤ n) (h1 : n ≤ 9223372036854775807) : (Lib.itoa n).length ≤ 20 := by
  unfold Lib.itoa
  split
  · have := dec_len n.natAbs (by omega); simp only [List.length_cons]; omega
  · have := dec_len n.toNat (by omega); omega
theorem typeName_len (t : Int) : (typeNameM t).length ≤ 5 := by
  unfold typeNameM
  cases h : rowOfT t with
  | none => simp
  | some j => exact (typeS_ne j (find_range h).1).2.2

end Go.Proofs.Ytckammgnmgkieaa

/-
  The document's names (package toponymref6): Compare.
-/
namespace Go.Proofs.Ytckammgnmgkieaa
set_option maxRecDepth 20000
open Go.RowKit Go.Shelf

theorem rev_cons {xs : Nm} {k p : Nat} (h : xs.length = p + k + 1) (hp : p < xs.length) : xs.reverse.drop k = xs[p] :: xs.reverse.drop (k + 1) := by
  rw [List.drop_eq_getElem_cons (by simp; omega)]
  congr 1
  simp only [List.getElem_reverse]
  congr 1; omega
theorem cmpR_end (p q : Nm) (h : p = [] ∨ q = []) : cmpR p q = cmpI ((p.length : Int) - q.length) 0 := by
  cases p with
  | nil =>
    cases q with
    | nil => rfl
    | cons y t => simp only [cmpR]; unfold cmpI; rw [if_pos (by simp only [List.length_nil, List.length_cons]; omega)]
  | cons x r =>
    cases q with
    | nil => simp only [cmpR]; unfold cmpI; rw [if_neg (by simp only [List.length_nil, List.length_cons]; omega), if_pos (by simp only [List.length_nil, List.length_cons]; omega)]
    | cons y t => rcases h with h | h <;> cases h

end Go.Proofs.Ytckammgnmgkieaa

/-
  The document's names (package toponymref6): Swap.
-/
namespace Go.Proofs.Ytckammgnmgkieaa
set_option maxRecDepth 20000
open Go.RowKit Go.Shelf

theorem elemS : ElemT 9 22 16 := ⟨Try.underlying22, _, _, rfl, rfl, rfl, rfl, rfl⟩

end Go.Proofs.Ytckammgnmgkieaa

/-
  The document's names (package toponymref6): ParseName.
-/
namespace Go.Proofs.Ytckammgnmgkieaa
set_option maxRecDepth 20000
open Go.RowKit Go.Shelf

def partsK (ps : Nm) (k : Nat) : Nm := if k = ps.length then partsN ps else ps.take k
def wholeK (ps : Nm) (k : Nat) : Bool := decide (k = ps.length) && wholeN ps
theorem partsK_lt {ps : Nm} {k : Nat} (h : k < ps.length) : partsK ps k = ps.take k := by unfold partsK; rw [if_neg (by omega)]
theorem partsK_end (ps : Nm) : partsK ps ps.length = partsN ps := by unfold partsK; rw [if_pos rfl]
/-- The last piece, empty. -/
theorem partsK_dot {ps : Nm} {k : Nat} (h : ps.length = k + 1) (h2 : ps[k]'(by omega) = []) : partsK ps (k + 1) = ps.take k ∧ wholeK ps (k + 1) = true := by
  have hw : wholeN ps = true := by rw [wholeN_eq h]; exact decide_eq_true h2
  unfold partsK wholeK partsN
  rw [if_pos h.symm, hw, if_pos rfl, List.dropLast_eq_take, h]
  simp
/-- A piece that is not the last one, or not empty. -/
theorem partsK_next {ps : Nm} {k : Nat} (h : k < ps.length) (h2 : ¬ (ps.length = k + 1 ∧ ps[k] = [])) : partsK ps (k + 1) = ps.take k ++ [ps[k]] ∧ wholeK ps (k + 1) = false ∧ ps.take k ++ [ps[k]] <+: partsN ps := by
  have ht : ps.take k ++ [ps[k]] = ps.take (k + 1) := (List.take_succ_eq_append_getElem h).symm
  rw [ht]
  by_cases e : ps.length = k + 1
  · have hw : wholeN ps = false := by rw [wholeN_eq e]; exact decide_eq_false (fun q => h2 ⟨e, q⟩)
    have hp : partsN ps = ps := by unfold partsN; rw [hw]; rfl
    have hk : ps.take (k + 1) = ps := List.take_of_length_le (by omega)
    unfold partsK wholeK
    rw [if_pos e.symm, hw, hp, hk, Bool.and_false]
    exact ⟨rfl, rfl, List.prefix_rfl⟩
  · refine ⟨partsK_lt (by omega), by unfold wholeK; rw [decide_eq_false (by omega)]; rfl, ?_⟩
    unfold partsN
    split
    · rw [List.dropLast_eq_take]
      exact List.take_prefix_take_left (by omega)
    · exact List.take_prefix _ _

end Go.Proofs.Ytckammgnmgkieaa

/-
  The document's names in the same spelling as package name's (XNamX); the statements' helpers.
-/
namespace Go.Proofs.Ytckammgnmgkieaa
set_option maxRecDepth 20000
open Go.RowKit Go.Shelf

theorem kn_RLen (v : Value) (n : Nm) (r : Int) (h : (lenN n : Int) = r) (w : World) (hA : NmAt w v n) (h1 : NmOK n) :
    Calls Try.prog 55 #[v] w fun e w' => e = .returned (.int .i64 r) ∧ Below w.heap.size w w' := by
  subst h; refine (ref_Len v n w hA.1 h1).mono ?_
  rintro e w' ⟨rfl, rfl⟩; exact ⟨rfl, Below.refl _ _⟩
theorem kn_RCheck (v : Value) (n : Nm) (r : Int) (h : checkN n = r) (w : World) (hA : NmAt w v n) (h1 : NmOK n) :
    Calls Try.prog 30 #[v] w fun e w' => e = .returned (.int .i64 r) ∧ Below w.heap.size w w' := by
  subst h; refine (ref_CheckName v n w hA.1 h1).mono ?_
  rintro e w' ⟨rfl, rfl⟩; exact ⟨rfl, Below.refl _ _⟩
/-- An argument of a law, a name or labels. -/
def NmArg (W : World) (v : Value) (xs : Nm) : Prop := NmAt W v xs ∧ xs.length ≤ maxLen ∧ ∀ x ∈ xs, x.length ≤ maxLen
theorem nmArg_nil (W : World) : NmArg W (.slice none 0 0) [] := ⟨nm_nil W, Nat.zero_le _, by simp⟩
theorem nmArg_row {W : World} {x : Addr} {l c : Nat} {zs : List ByteArray} (hl : l ≤ c) (hm : c ≤ maxLen) (hz : zs.length = c)
    (hcell : ∀ i, i < zs.length → W.cell? (x.add i) = some (.string (zs.getD i ByteArray.empty))) (hws : ∀ s ∈ zs, s.size ≤ maxLen) :
    NmArg W (.slice (some x) l c) ((zs.take l).map (·.data.toList)) := by
  have h := strsArg_row hl hm hz hcell hws
  exact ⟨⟨h.1, _, _, _, rfl, hl, fun e => by cases e⟩, h.2⟩
theorem kn_Few (v : Value) (n : Nm) (r : Bool) (h : fewN n = r) (w0 w : World) (hA : NmArg w0 v n) (hA2 : NmAt w v n) :
    Calls Try.prog 29 #[v] w fun e w' => e = .returned (.bool r) ∧ Below w.heap.size w w' := by
  subst h; refine (law2_Few v n w hA2.1 hA.2.1 hA.2.2).mono ?_
  rintro e w' ⟨rfl, rfl⟩; exact ⟨rfl, Below.refl _ _⟩
theorem kn_Good (v : Value) (n : Nm) (r : Bool) (h : goodN n = r) (w0 w : World) (hA : NmArg w0 v n) (hA2 : NmAt w v n) :
    Calls Try.prog 13 #[v] w fun e w' => e = .returned (.bool r) ∧ Below w.heap.size w w' := by
  subst h; refine (law2_Good v n w hA2.1 hA.2.1 hA.2.2).mono ?_
  rintro e w' ⟨rfl, rfl⟩; exact ⟨rfl, Below.refl _ _⟩
end Go.Proofs.Ytckammgnmgkieaa

/-
  rdata.counted, whatever the type.
-/
namespace Go.Proofs.Ytckammgnmgkieaa
set_option maxRecDepth 20000
open Go.RowKit Go.Shelf

theorem countedM_lit (d : Dat) (a b r : Nat) (h : countsM d.ty = ((a : Int), (b : Int), (r : Int))) (h16 : d.ty ≠ 16) : countedM d = decide (d.names.length = a ∧ d.nums.length = b ∧ d.texts.length = 0 ∧ d.raw.length = r) := by
  unfold countedM
  rw [h]
  apply decide_eq_decide.2
  rw [if_neg h16]
  show (d.names.length : Int) = (a : Int) ∧ (d.nums.length : Int) = (b : Int) ∧ _ ∧ ((0 : Int) ≤ (r : Int) → (d.raw.length : Int) = (r : Int)) ↔ _
  constructor
  · rintro ⟨h1, h2, h3, h4⟩
    have := h4 (by omega)
    exact ⟨by omega, by omega, h3, by omega⟩
  · rintro ⟨h1, h2, h3, h4⟩
    exact ⟨by omega, by omega, h3, fun _ => by omega⟩
end Go.Proofs.Ytckammgnmgkieaa

