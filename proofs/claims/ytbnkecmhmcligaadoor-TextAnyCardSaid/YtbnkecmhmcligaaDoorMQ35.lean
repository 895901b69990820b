/-
  Data (chapter 4): as plain data; how a value reads as them.
-/
import Derived.Test.YtbnkecmhmcligaaDoorMQ19
import Derived.Test.YtbnkecmhmcligaaDoorMQ15
import Derived.Deep.RegionLaw
namespace Go.Proofs.YtbnkecmhmcligaaDoor
set_option linter.unusedVariables false
set_option linter.unusedSimpArgs false
set_option maxRecDepth 20000
open Go.RowKit Go.Shelf

/-- The slice value v reads as these cells. -/
def SlAt (W : World) (v : Value) (xs : List Value) : Prop :=
  ∃ a c, v = .slice a xs.length c ∧ xs.length ≤ c ∧ (a = none → c = 0) ∧ (xs = [] ∨ ∃ b off, a = some ⟨b, off, none⟩ ∧ b < W.heap.size ∧ ∀ j (hj : j < xs.length), W.cell? ⟨b, off + j, none⟩ = some xs[j])
theorem SlAt.below {W W' : World} {v : Value} {xs : List Value} (h : SlAt W v xs) (hb : Below W.heap.size W W') : SlAt W' v xs := by
  obtain ⟨a, c, e, h1, h2, h⟩ := h
  refine ⟨a, c, e, h1, h2, ?_⟩
  rcases h with h | ⟨b, off, ea, hlt, hc⟩
  · exact .inl h
  · exact .inr ⟨b, off, ea, Nat.lt_of_lt_of_le hlt hb.size, fun j hj => (hb.cell (p := ⟨b, off + j, none⟩) hlt).trans (hc j hj)⟩
theorem SlAt.nil (W : World) : SlAt W (.slice none 0 0) [] := ⟨none, 0, rfl, Nat.le_refl _, fun _ => rfl, .inl rfl⟩
theorem SlAt.ok {W : World} {v : Value} {xs : List Value} (h : SlAt W v xs) : SlOK v := by
  obtain ⟨a, c, rfl, h1, h2, _⟩ := h
  exact ⟨_, _, _, rfl, h1, h2⟩
theorem SlAt.of_own {α : Type} {T : TypeId} {enc : α → Value} {W : World} {base : Nat} {v : Value} {xs : List α} (h : OwnG T enc W base v xs) : SlAt W v (xs.map enc) := by
  have h0 := h
  rcases h.2 with ⟨rfl, h1⟩ | ⟨g, cap, cur, rfl, hb, hg, hc, hm, hsz, htk⟩
  · obtain rfl := List.eq_nil_of_length_eq_zero h1
    exact SlAt.nil W
  · refine ⟨_, _, by rw [List.length_map], by rw [List.length_map]; exact hc, (fun e => by cases e), ?_⟩
    by_cases hne : xs = []
    · subst hne; exact .inl rfl
    · obtain ⟨g', eg, _, hlt, hcl⟩ := h0.cells hne
      cases eg
      refine .inr ⟨g, 0, rfl, hlt, fun j hj => ?_⟩
      rw [Nat.zero_add, hcl j (by simpa using hj), List.getElem_map]
/-- A row that came in. -/
theorem slAt_row {W : World} {x : Addr} {l c : Nat} {V : Nat → Value} {vs : List Value} (hv : vs.length = l) (hl : l ≤ c) (hvs : ∀ j (hj : j < vs.length), vs[j] = V j)
    (hcell : ∀ i, i < c → W.cell? (x.add i) = some (V i)) : SlAt W (.slice (some x) l c) vs := by
  refine ⟨some x, c, by rw [hv], by omega, (fun e => by cases e), ?_⟩
  by_cases h0 : l = 0
  · subst h0; exact .inl (List.eq_nil_of_length_eq_zero hv)
  · right
    obtain ⟨b, off, spot⟩ := x
    have hspot : spot = none := by simpa [Addr.add] using World.cell?_spot (hcell 0 (by omega))
    subst hspot
    have hb : b < W.heap.size := by
      have h := hcell 0 (by omega)
      simp only [Addr.add, if_true] at h
      unfold World.cell? at h
      rcases Nat.lt_or_ge b W.heap.size with h' | h'
      · exact h'
      · rw [Array.getElem?_eq_none h'] at h; simp at h
    refine ⟨b, off, rfl, hb, fun j hj => ?_⟩
    rw [← Go.WideShapes.add_plain, hcell j (by omega), hvs j hj]

theorem nmAt_sl {W : World} {v : Value} {xs : Nm} : NmAt W v xs ↔ SlAt W v (xs.map strV) := by
  constructor
  · rintro ⟨⟨a, c, rfl, h⟩, ⟨a', n', c', e, h1, h2⟩⟩
    cases e
    refine ⟨a, c, by rw [List.length_map], by rw [List.length_map]; exact h1, h2, ?_⟩
    rcases h with rfl | ⟨b, off, ea, hlt, hc⟩
    · exact .inl rfl
    · exact .inr ⟨b, off, ea, hlt, fun j hj => by rw [List.getElem_map]; exact hc j (by simpa using hj)⟩
  · rintro ⟨a, c, e, h1, h2, h⟩
    rw [List.length_map] at e h1
    subst e
    refine ⟨⟨a, c, rfl, ?_⟩, ⟨_, _, _, rfl, h1, h2⟩⟩
    rcases h with h | ⟨b, off, ea, hlt, hc⟩
    · exact .inl (by simpa using h)
    · refine .inr ⟨b, off, ea, hlt, fun j hj => ?_⟩
      rw [hc j (by simpa using hj), List.getElem_map]

/-- A slice of names. -/
def NmsAt (W : World) (v : Value) (ns : List Nm) : Prop := ∃ vs : List Value, SlAt W v vs ∧ ∃ h : vs.length = ns.length, ∀ j (hj : j < vs.length), NmAt W vs[j] (ns[j]'(by omega))
theorem NmsAt.below {W W' : World} {v : Value} {ns : List Nm} (h : NmsAt W v ns) (hb : Below W.heap.size W W') : NmsAt W' v ns := by
  obtain ⟨vs, h1, h2, h3⟩ := h
  exact ⟨vs, h1.below hb, h2, fun j hj => (h3 j hj).below hb⟩
theorem NmsAt.nil (W : World) : NmsAt W (.slice none 0 0) [] := ⟨[], SlAt.nil W, rfl, fun _ hj => absurd hj (Nat.not_lt_zero _)⟩

def u32V (n : Nat) : Value := .int .u32 (n : Int)

/-- Data. -/
structure Dat where
  ty : Int
  names : List Nm
  nums : List Nat
  texts : Nm
  raw : List UInt8

def DatAt (W : World) (v : Value) (d : Dat) : Prop :=
  ∃ vn vu vt vr, v = .agg #[.int .i64 d.ty, vn, vu, vt, vr] ∧ NmsAt W vn d.names ∧ SlAt W vu (d.nums.map u32V) ∧ NmAt W vt d.texts ∧ SlAt W vr (d.raw.map bv)
theorem DatAt.below {W W' : World} {v : Value} {d : Dat} (h : DatAt W v d) (hb : Below W.heap.size W W') : DatAt W' v d := by
  obtain ⟨vn, vu, vt, vr, e, h1, h2, h3, h4⟩ := h
  exact ⟨vn, vu, vt, vr, e, h1.below hb, h2.below hb, h3.below hb, h4.below hb⟩
def Dat.none : Dat := ⟨0, [], [], [], []⟩

/-- Bounds on data that the functions are asked for. -/
def DatOK (d : Dat) : Prop := (-(2 ^ 63) ≤ d.ty ∧ d.ty < 2 ^ 63) ∧ d.names.length ≤ 1048576 ∧ (∀ n ∈ d.names, NmOK n) ∧ d.nums.length ≤ 1048576 ∧ (∀ n ∈ d.nums, n < 2 ^ 32) ∧ NmOK d.texts ∧ d.raw.length ≤ 1048576

end Go.Proofs.YtbnkecmhmcligaaDoor

/-
  Rows of k cells in this seat (out of XCln, XRowK, XRowH): slices, appends.
-/
namespace Go.Proofs.YtbnkecmhmcligaaDoor
set_option linter.unusedVariables false
set_option linter.unusedSimpArgs false
set_option maxRecDepth 20000
open Go.RowKit Go.Shelf
set_option maxRecDepth 20000
/-- The slice value v reads as these elements, each by its cells. -/
def SlK (W : World) (v : Value) (css : List (List Value)) : Prop :=
  ∃ a c, v = .slice a css.length c ∧ css.length ≤ c ∧ (a = none → c = 0) ∧ (css = [] ∨ ∃ b off, a = some ⟨b, off, none⟩ ∧ b < W.heap.size ∧ ∀ j u, css.flatten[j]? = some u → W.cell? ⟨b, off + j, none⟩ = some u)
theorem SlK.below {W W' : World} {v : Value} {css : List (List Value)} (h : SlK W v css) (hb : Below W.heap.size W W') : SlK W' v css := by
  obtain ⟨a, c, e, h1, h2, h⟩ := h
  refine ⟨a, c, e, h1, h2, ?_⟩
  rcases h with h | ⟨b, off, ea, hlt, hc⟩
  · exact .inl h
  · exact .inr ⟨b, off, ea, Nat.lt_of_lt_of_le hlt hb.size, fun j u hj => (hb.cell (p := ⟨b, off + j, none⟩) hlt).trans (hc j u hj)⟩
theorem SlK.nil (W : World) : SlK W (.slice none 0 0) [] := ⟨none, 0, rfl, Nat.le_refl _, fun _ => rfl, .inl rfl⟩
theorem slK_one {W : World} {v : Value} {xs : List Value} (h : SlAt W v xs) : SlK W v (xs.map fun x => [x]) := by
  obtain ⟨a, c, e, h1, h2, h⟩ := h
  refine ⟨a, c, by rw [List.length_map]; exact e, by rw [List.length_map]; exact h1, h2, ?_⟩
  have hf : ∀ xs : List Value, (xs.map fun x => [x]).flatten = xs := fun xs => by
    induction xs with
    | nil => rfl
    | cons x r ih => rw [List.map_cons, List.flatten_cons, ih]; rfl
  rcases h with h | ⟨b, off, ea, hlt, hc⟩
  · subst h; exact .inl rfl
  · refine .inr ⟨b, off, ea, hlt, fun j u hj => ?_⟩
    rw [hf] at hj
    obtain ⟨hj1, hj2⟩ := List.getElem?_eq_some_iff.1 hj
    rw [← hj2]; exact hc j hj1
abbrev OwnC (k : Nat) (T : TypeId) (W : World) (base : Nat) (v : Value) (css : List (List Value)) : Prop := OwnK k T (fun cs : List Value => cs) W base v css
theorem flat_id (css : List (List Value)) : css.flatMap (fun cs => cs) = css.flatten := by simp [List.flatMap]
theorem flat_len {k : Nat} : ∀ (css : List (List Value)), (∀ cs ∈ css, cs.length = k) → css.flatten.length = css.length * k
  | [], _ => by simp
  | c :: r, h => by
    rw [List.flatten_cons, List.length_append, h c (by simp), flat_len r (fun x hx => h x (by simp [hx])), List.length_cons, Nat.succ_mul]; omega
theorem SlK.of_own {k : Nat} {T : TypeId} {W : World} {base : Nat} {v : Value} {css : List (List Value)} (h : OwnC k T W base v css) (hk : ∀ cs ∈ css, cs.length = k) : SlK W v css := by
  rcases h.2 with ⟨rfl, h0⟩ | ⟨g, cap, cur, rfl, hb, hg, hc, hm, hsz, htk⟩
  · obtain rfl := List.eq_nil_of_length_eq_zero h0
    exact SlK.nil W
  · refine ⟨_, _, rfl, hc, (fun e => by cases e), .inr ⟨g, 0, rfl, (Array.getElem?_eq_some_iff.1 hg).1, fun j u hj => ?_⟩⟩
    have hl := flat_len css hk
    have hj' : j < css.length * k := by rw [← hl]; exact (List.getElem?_eq_some_iff.1 hj).1
    have h3 : cur.toList[j]? = some u := by
      have : (cur.toList.take (css.length * k))[j]? = some u := by rw [htk, flat_id]; exact hj
      rw [List.getElem?_take, if_pos hj'] at this
      exact this
    simp only [World.cell?, hg, Nat.zero_add]
    simpa using h3
/-- append of a whole slice to one of the call's own. -/
theorem wpl_append_slk {S T : TypeId} {k bytes : Nat} {ops : Array Oper} {rest : List Oper} {o : Oper} {a : Act} {Q : Exit → Act → World → Prop} (W : World) (hgd : o.guard = none) (s x : Operand) (hE : ElemK k T S bytes) (hk0 : 0 < k)
    (ho : o.op = .call { callee := .builtin .append, args := #[s, x], argTypes := #[S, S] })
    (base : Nat) (v : Value) (xs : List (List Value)) (hs : a.eval s = v) (hown : OwnC k T W base v xs)
    (src : Value) (ys : List (List Value)) (hx : a.eval x = src) (hsrc : SlK W src ys) (hyk : ∀ cs ∈ ys, cs.length = k) (hy1 : ∀ cs ∈ ys, ∀ u ∈ cs, u.oneCell' = true)
    (hbase : base ≤ W.heap.size) (hk : xs.length + ys.length ≤ maxLen) (hk2 : (xs.length + ys.length) * bytes ≤ 140737488355328)
    (h : ∀ v' w', OwnC k T w' base v' (xs ++ ys) → W.grownBy w' v.ownBlock → wpList Tryd.prog ops Q rest (a.put o.dst v') w') :
    wpList Tryd.prog ops Q (o :: rest) a W := by
  obtain ⟨ht, i, z, hi, hz, hz1, hz2, hzc⟩ := hE
  obtain ⟨a0, c0, rfl, h1, h2, h3⟩ := hsrc
  have hlen := flat_len ys hyk
  cases a0 with
  | none =>
    have e3 := h2 rfl
    subst e3
    have e4 : ys = [] := List.eq_nil_of_length_eq_zero (by omega)
    subst e4
    refine wpList_append_own_none hgd s x S ho base _ i k ht hi v _ _ hs hown hx ?_
    exact h v W (by rw [List.append_nil]; exact hown) ⟨rfl, rfl, rfl, Nat.le_refl _, fun _ _ _ => rfl⟩
  | some ad =>
    have hcell : ∀ j u, ys.flatten[j]? = some u → W.cell? (ad.add j) = some u := by
      intro j u hj
      rcases h3 with h3 | ⟨b, off, ea, _, hc⟩
      · subst h3; simp at hj
      · cases ea; rw [Addr.add_lit]; exact hc j u hj
    refine wpList_append_own _ hgd s x S ho base _ i z k bytes ht hi hz hz1 hz2 hzc hk0 v xs.length (xs.flatMap fun cs => cs) hs hown ad ys.length c0 ys.flatten hx hlen hcell (by intro u hu; obtain ⟨y, hy, hu⟩ := List.mem_flatten.1 hu; exact hy1 y hy u hu) hk hk2 hbase ?_
    intro v' w' g1 g2 _
    refine h v' w' ?_ g2
    unfold OwnC OwnK
    rw [List.length_append, List.flatMap_append, flat_id ys]
    exact g1
theorem ownC_lit (k : Nat) (T : TypeId) (w : World) : OwnC k T (w.alloc (.cells #[] T)) w.heap.size (.slice (some ⟨w.heap.size, 0, none⟩) 0 0) [] := World.ownsRow_made w #[] 0 (Nat.le_refl _) (Nat.zero_le _) (by simp)
theorem slK_blk {W : World} {g : Nat} {css : List (List Value)} {T : TypeId} (h : W.heap[g]? = some (.cells css.flatten.toArray T)) : SlK W (.slice (some ⟨g, 0, none⟩) css.length css.length) css := by
  refine ⟨_, _, rfl, Nat.le_refl _, (fun e => by cases e), .inr ⟨g, 0, rfl, kblock_lt h, fun j u hj => ?_⟩⟩
  have := kcell h j u (by simpa using hj)
  rw [Nat.zero_add]; exact this
theorem SlK.takeK {W : World} {a : Option Addr} {n c : Nat} {css : List (List Value)} (h : SlK W (.slice a n c) css) (k : Nat) (hk : k ≤ n) : SlK W (.slice a k c) (css.take k) := by
  obtain ⟨a', c', e, h1, h2, h3⟩ := h
  cases e
  have hl : (css.take k).length = k := by rw [List.length_take]; omega
  refine ⟨a, c, by rw [hl], by rw [hl]; omega, h2, ?_⟩
  rcases h3 with h3 | ⟨b, off, e, hlt, hc⟩
  · left; rw [h3]; simp
  · right
    refine ⟨b, off, e, hlt, fun j u hj => hc j u ?_⟩
    have hsplit : css.flatten = (css.take k).flatten ++ (css.drop k).flatten := by rw [← List.flatten_append, List.take_append_drop]
    rw [hsplit, List.getElem?_append_left (List.getElem?_eq_some_iff.1 hj).1]
    exact hj
/-- append of a whole row to one of the call's own, as one operation. -/
theorem wp_append_slk {S T : TypeId} {k bytes : Nat} {o : Oper} {a : Act} {K : Act → World → Prop} {Q : Exit → Act → World → Prop} (W : World) (s x : Operand) (hE : ElemK k T S bytes) (hk0 : 0 < k)
    (ho : o.op = .call { callee := .builtin .append, args := #[s, x], argTypes := #[S, S] })
    (base : Nat) (v : Value) (xs : List (List Value)) (hs : a.eval s = v) (hown : OwnC k T W base v xs)
    (src : Value) (ys : List (List Value)) (hx : a.eval x = src) (hsrc : SlK W src ys) (hyk : ∀ cs ∈ ys, cs.length = k) (hy1 : ∀ cs ∈ ys, ∀ u ∈ cs, u.oneCell' = true)
    (hbase : base ≤ W.heap.size) (hk : xs.length + ys.length ≤ maxLen) (hk2 : (xs.length + ys.length) * bytes ≤ 140737488355328)
    (h : ∀ v' w', OwnC k T w' base v' (xs ++ ys) → W.grownBy w' v.ownBlock → K (a.put o.dst v') w') :
    o.wp Tryd.prog a W K Q := by
  obtain ⟨ht, i, z, hi, hz, hz1, hz2, hzc⟩ := hE
  obtain ⟨a0, c0, rfl, h1, h2, h3⟩ := hsrc
  have hlen := flat_len ys hyk
  cases a0 with
  | none =>
    have e3 := h2 rfl
    subst e3
    have e4 : ys = [] := List.eq_nil_of_length_eq_zero (by omega)
    subst e4
    have hrun := run_append_owned_none (P := Tryd.prog) (w := W) base S o.type _ i k ht hi v _ _ hown
    have hK := h v W (by rw [List.append_nil]; exact hown) ⟨rfl, rfl, rfl, Nat.le_refl _, fun _ _ _ => rfl⟩
    unfold Oper.wp
    simp [execOp, ho, resolve, invoke, builtin, hs, hx, hrun, Result.andThen]
    exact hK
  | some ad =>
    have hcell : ∀ j u, ys.flatten[j]? = some u → W.cell? (ad.add j) = some u := by
      intro j u hj
      rcases h3 with h3 | ⟨b, off, ea, _, hc⟩
      · subst h3; simp at hj
      · cases ea; rw [Addr.add_lit]; exact hc j u hj
    refine wp_append_own W s x S ho base _ i z k bytes ht hi hz hz1 hz2 hzc hk0 v xs.length (xs.flatMap fun cs => cs) hs hown ad ys.length c0 ys.flatten hx hlen hcell (by intro u hu; obtain ⟨y, hy, hu⟩ := List.mem_flatten.1 hu; exact hy1 y hy u hu) hk hk2 hbase ?_
    intro v' w' g1 g2 _
    refine h v' w' ?_ g2
    unfold OwnC OwnK
    rw [List.length_append, List.flatMap_append, flat_id ys]
    exact g1
theorem step_append_slk {S T : TypeId} {k bytes : Nat} {ops : Array Oper} {o : Oper} {a : Act} {K : Act → World → Prop} {Q : Exit → Act → World → Prop} {E : Prop} (W : World) (hgd : o.guard = none) (s x : Operand) (hE : ElemK k T S bytes) (hk0 : 0 < k)
    (ho : o.op = .call { callee := .builtin .append, args := #[s, x], argTypes := #[S, S] })
    (base : Nat) (v : Value) (xs : List (List Value)) (hs : a.eval s = v) (hown : OwnC k T W base v xs)
    (src : Value) (ys : List (List Value)) (hx : a.eval x = src) (hsrc : SlK W src ys) (hyk : ∀ cs ∈ ys, cs.length = k) (hy1 : ∀ cs ∈ ys, ∀ u ∈ cs, u.oneCell' = true)
    (hbase : base ≤ W.heap.size) (hk : xs.length + ys.length ≤ maxLen) (hk2 : (xs.length + ys.length) * bytes ≤ 140737488355328)
    (h : ∀ v' w', OwnC k T w' base v' (xs ++ ys) → W.grownBy w' v.ownBlock → K (a.put o.dst v') w') :
    if Region.wanted o (yielded ops a.tmps) = true then Oper.wp Tryd.prog o a W K Q else E := by
  have hw : Region.wanted o (yielded ops a.tmps) = true := by simp [Region.wanted, hgd]
  rw [if_pos hw]
  exact wp_append_slk W s x hE hk0 ho base v xs hs hown src ys hx hsrc hyk hy1 hbase hk hk2 h
theorem step_append_h {S T : TypeId} {k bytes : Nat} (W : World) (s x : Operand) (hE : ElemK k T S bytes) (hk0 : 0 < k)
    (base : Nat) (v : Value) (xs : List (List Value)) (hown : OwnC k T W base v xs)
    (src : Value) (ys : List (List Value)) (hsrc : SlK W src ys) (hyk : ∀ cs ∈ ys, cs.length = k) (hy1 : ∀ cs ∈ ys, ∀ u ∈ cs, u.oneCell' = true)
    (hbase : base ≤ W.heap.size) (hk : xs.length + ys.length ≤ maxLen) (hk2 : (xs.length + ys.length) * bytes ≤ 140737488355328)
    (ops : Array Oper) (o : Oper) (a : Act) (K : Act → World → Prop) (Q : Exit → Act → World → Prop) (E : Prop) (hgd : o.guard = none)
    (ho : o.op = .call { callee := .builtin .append, args := #[s, x], argTypes := #[S, S] }) (hs : a.eval s = v) (hx : a.eval x = src)
    (h : ∀ v' w', OwnC k T w' base v' (xs ++ ys) → W.grownBy w' v.ownBlock → K (a.put o.dst v') w') :
    if Region.wanted o (yielded ops a.tmps) = true then Oper.wp Tryd.prog o a W K Q else E :=
  step_append_slk W hgd s x hE hk0 ho base v xs hs hown src ys hx hsrc hyk hy1 hbase hk hk2 h
end Go.Proofs.YtbnkecmhmcligaaDoor

