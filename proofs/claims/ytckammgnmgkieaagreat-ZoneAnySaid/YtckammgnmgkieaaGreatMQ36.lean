/-
  Slices whose elements have k cells, wherever they lie; slices.Clone of them.
-/
import Derived.Test.YtckammgnmgkieaaGreatMQ16
import Derived.Test.YtckammgnmgkieaaGreatMQ18
import Derived.Laws.AppendOwnNone
import Derived.Lib.Walk
import Derived.Lib.SliceRun
import Derived.Test.YtckammgnmgkieaaGreatMQ15
import Derived.Test.YtckammgnmgkieaaGreatMQ27
namespace Go.Proofs.YtckammgnmgkieaaGreat
set_option maxRecDepth 20000
open Go.RowKit Go.Shelf
set_option maxRecDepth 20000
set_option linter.unusedVariables false
set_option linter.unusedSimpArgs false

def SlK (W : World) (v : Value) (css : List (List Value)) : Prop :=
  ∃ a c, v = .slice a css.length c ∧ css.length ≤ c ∧ (a = none → c = 0) ∧ (css = [] ∨ ∃ b off, a = some ⟨b, off, none⟩ ∧ b < W.heap.size ∧ ∀ j u, css.flatten[j]? = some u → W.cell? ⟨b, off + j, none⟩ = some u)
theorem SlK.below {W W' : World} {v : Value} {css : List (List Value)} (h : SlK W v css) (hb : Below W.heap.size W W') : SlK W' v css := by
  obtain ⟨a, c, e, h1, h2, h⟩ := h
  refine ⟨a, c, e, h1, h2, ?_⟩
  rcases h with h | ⟨b, off, ea, hlt, hc⟩
  · exact .inl h
  · exact .inr ⟨b, off, ea, Nat.lt_of_lt_of_le hlt hb.size, fun j u hj => (hb.cell (p := ⟨b, off + j, none⟩) hlt).trans (hc j u hj)⟩
theorem SlK.nil (W : World) : SlK W (.slice none 0 0) [] := ⟨none, 0, rfl, Nat.le_refl _, fun _ => rfl, .inl rfl⟩
theorem slK_one {W : World} {v : Value} {xs : List Value} (h : SlAt W v xs) : SlK W v (xs.map fun x => [x]) := by
  obtain ⟨a, c, e, h1, h2, h⟩ := h
  refine ⟨a, c, by rw [List.length_map]; exact e, by rw [List.length_map]; exact h1, h2, ?_⟩
  have hf : ∀ xs : List Value, (xs.map fun x => [x]).flatten = xs := fun xs => by
    induction xs with
    | nil => rfl
    | cons x r ih => rw [List.map_cons, List.flatten_cons, ih]; rfl
  rcases h with h | ⟨b, off, ea, hlt, hc⟩
  · subst h; exact .inl rfl
  · refine .inr ⟨b, off, ea, hlt, fun j u hj => ?_⟩
    rw [hf] at hj
    obtain ⟨hj1, hj2⟩ := List.getElem?_eq_some_iff.1 hj
    rw [← hj2]; exact hc j hj1
abbrev OwnC (k : Nat) (T : TypeId) (W : World) (base : Nat) (v : Value) (css : List (List Value)) : Prop := OwnK k T (fun cs : List Value => cs) W base v css
theorem flat_id (css : List (List Value)) : css.flatMap (fun cs => cs) = css.flatten := by simp [List.flatMap]
theorem flat_len {k : Nat} : ∀ (css : List (List Value)), (∀ cs ∈ css, cs.length = k) → css.flatten.length = css.length * k
  | [], _ => by simp
  | c :: r, h => by
    rw [List.flatten_cons, List.length_append, h c (by simp), flat_len r (fun x hx => h x (by simp [hx])), List.length_cons, Nat.succ_mul]; omega
theorem SlK.of_own {k : Nat} {T : TypeId} {W : World} {base : Nat} {v : Value} {css : List (List Value)} (h : OwnC k T W base v css) (hk : ∀ cs ∈ css, cs.length = k) : SlK W v css := by
  rcases h.2 with ⟨rfl, h0⟩ | ⟨g, cap, cur, rfl, hb, hg, hc, hm, hsz, htk⟩
  · obtain rfl := List.eq_nil_of_length_eq_zero h0
    exact SlK.nil W
  · refine ⟨_, _, rfl, hc, (fun e => by cases e), .inr ⟨g, 0, rfl, (Array.getElem?_eq_some_iff.1 hg).1, fun j u hj => ?_⟩⟩
    have hl := flat_len css hk
    have hj' : j < css.length * k := by rw [← hl]; exact (List.getElem?_eq_some_iff.1 hj).1
    have h3 : cur.toList[j]? = some u := by
      have : (cur.toList.take (css.length * k))[j]? = some u := by rw [htk, flat_id]; exact hj
      rw [List.getElem?_take, if_pos hj'] at this
      exact this
    simp only [World.cell?, hg, Nat.zero_add]
    simpa using h3
theorem wpl_append_slk {S T : TypeId} {k bytes : Nat} {ops : Array Oper} {rest : List Oper} {o : Oper} {a : Act} {Q : Exit → Act → World → Prop} (W : World) (hgd : o.guard = none) (s x : Operand) (hE : ElemK k T S bytes) (hk0 : 0 < k)
    (ho : o.op = .call { callee := .builtin .append, args := #[s, x], argTypes := #[S, S] })
    (base : Nat) (v : Value) (xs : List (List Value)) (hs : a.eval s = v) (hown : OwnC k T W base v xs)
    (src : Value) (ys : List (List Value)) (hx : a.eval x = src) (hsrc : SlK W src ys) (hyk : ∀ cs ∈ ys, cs.length = k) (hy1 : ∀ cs ∈ ys, ∀ u ∈ cs, u.oneCell' = true)
    (hbase : base ≤ W.heap.size) (hk : xs.length + ys.length ≤ maxLen) (hk2 : (xs.length + ys.length) * bytes ≤ 140737488355328)
    (h : ∀ v' w', OwnC k T w' base v' (xs ++ ys) → W.grownBy w' v.ownBlock → wpList Tryz.prog ops Q rest (a.put o.dst v') w') :
    wpList Tryz.prog ops Q (o :: rest) a W := by
  obtain ⟨ht, i, z, hi, hz, hz1, hz2, hzc⟩ := hE
  obtain ⟨a0, c0, rfl, h1, h2, h3⟩ := hsrc
  have hlen := flat_len ys hyk
  cases a0 with
  | none =>
    have e3 := h2 rfl
    subst e3
    have e4 : ys = [] := List.eq_nil_of_length_eq_zero (by omega)
    subst e4
    refine wpList_append_own_none hgd s x S ho base _ i k ht hi v _ _ hs hown hx ?_
    exact h v W (by rw [List.append_nil]; exact hown) ⟨rfl, rfl, rfl, Nat.le_refl _, fun _ _ _ => rfl⟩
  | some ad =>
    have hcell : ∀ j u, ys.flatten[j]? = some u → W.cell? (ad.add j) = some u := by
      intro j u hj
      rcases h3 with h3 | ⟨b, off, ea, _, hc⟩
      · subst h3; simp at hj
      · cases ea; rw [Addr.add_lit]; exact hc j u hj
    refine wpList_append_own _ hgd s x S ho base _ i z k bytes ht hi hz hz1 hz2 hzc hk0 v xs.length (xs.flatMap fun cs => cs) hs hown ad ys.length c0 ys.flatten hx hlen hcell (by intro u hu; obtain ⟨y, hy, hu⟩ := List.mem_flatten.1 hu; exact hy1 y hy u hu) hk hk2 hbase ?_
    intro v' w' g1 g2 _
    refine h v' w' ?_ g2
    unfold OwnC OwnK
    rw [List.length_append, List.flatMap_append, flat_id ys]
    exact g1
theorem ownC_lit (k : Nat) (T : TypeId) (w : World) : OwnC k T (w.alloc (.cells #[] T)) w.heap.size (.slice (some ⟨w.heap.size, 0, none⟩) 0 0) [] := World.ownsRow_made w #[] 0 (Nat.le_refl _) (Nat.zero_le _) (by simp)

theorem elem_rec : ElemK 7 103 22 136 := ⟨Tryz.underlying22, _, _, rfl, rfl, rfl, rfl, rfl⟩
set_option maxHeartbeats 2000000 in
theorem clone_rec (v : Value) (css : List (List Value)) (w : World) (hA : SlK w v css) (hk : ∀ cs ∈ css, cs.length = 7) (h1 : ∀ cs ∈ css, ∀ u ∈ cs, u.oneCell' = true) (hl : css.length ≤ 1000000000000) :
    Calls Tryz.prog 150 #[v] w fun e w' => ∃ v', e = .returned v' ∧ OwnC 7 103 w' w.heap.size v' css ∧ Below w.heap.size w w' := by
  obtain ⟨a, c, rfl, hc1, hc2, hx⟩ := id hA
  cases a with
  | none =>
    have hnil : css = [] := List.eq_nil_of_length_eq_zero (by have := hc2 rfl; omega)
    subst hnil
    obtain rfl := hc2 rfl
    clear hc2 hx
    have q := fun w => Lib.run_eql_slice_nil (P := Tryz.prog) w 22 _ none 0 0 0 0 Tryz.underlying22
    go_enter Tryz.func150, Tryz.ntmps150
    go_wp2
    go_ret
    exact ⟨_, rfl, OwnK.nil _ _, Below.refl _ _⟩
  | some ad =>
    have hlit := ownC_lit 7 103 w
    have q := fun w => Lib.run_eql_slice_nil (P := Tryz.prog) w 22 _ (some ad) css.length c 0 0 Tryz.underlying22
    go_enter Tryz.func150, Tryz.ntmps150
    go_wp2_with (at_builtin; refine wpl_append_slk (w.alloc (.cells #[] 103)) rfl (.tmp 5) (.tmp 6) elem_rec (by decide) rfl w.heap.size _ [] rfl hlit _ css rfl (hA.below ((Below.refl _ w).alloc (Nat.le_refl _) _)) hk h1 (by simp) (by unfold maxLen; simp; omega) (by simp; omega) ?_; intro v' w' hown' hg')
    go_ret
    exact ⟨v', rfl, hown', ((Below.refl _ w).alloc (Nat.le_refl _) _).grown hg' (by simp) hlit.base_le⟩

theorem elem_u32 : ElemK 1 35 98 4 := ⟨Tryz.underlying98, _, _, rfl, rfl, rfl, rfl, rfl⟩
set_option maxHeartbeats 2000000 in
theorem clone_u32 (v : Value) (css : List (List Value)) (w : World) (hA : SlK w v css) (hk : ∀ cs ∈ css, cs.length = 1) (h1 : ∀ cs ∈ css, ∀ u ∈ cs, u.oneCell' = true) (hl : css.length ≤ 1000000000000) :
    Calls Tryz.prog 152 #[v] w fun e w' => ∃ v', e = .returned v' ∧ OwnC 1 35 w' w.heap.size v' css ∧ Below w.heap.size w w' := by
  obtain ⟨a, c, rfl, hc1, hc2, hx⟩ := id hA
  cases a with
  | none =>
    have hnil : css = [] := List.eq_nil_of_length_eq_zero (by have := hc2 rfl; omega)
    subst hnil
    obtain rfl := hc2 rfl
    clear hc2 hx
    have q := fun w => Lib.run_eql_slice_nil (P := Tryz.prog) w 98 _ none 0 0 0 0 Tryz.underlying98
    go_enter Tryz.func152, Tryz.ntmps152
    go_wp2
    go_ret
    exact ⟨_, rfl, OwnK.nil _ _, Below.refl _ _⟩
  | some ad =>
    have hlit := ownC_lit 1 35 w
    have q := fun w => Lib.run_eql_slice_nil (P := Tryz.prog) w 98 _ (some ad) css.length c 0 0 Tryz.underlying98
    go_enter Tryz.func152, Tryz.ntmps152
    go_wp2_with (at_builtin; refine wpl_append_slk (w.alloc (.cells #[] 35)) rfl (.tmp 5) (.tmp 6) elem_u32 (by decide) rfl w.heap.size _ [] rfl hlit _ css rfl (hA.below ((Below.refl _ w).alloc (Nat.le_refl _) _)) hk h1 (by simp) (by unfold maxLen; simp; omega) (by simp; omega) ?_; intro v' w' hown' hg')
    go_ret
    exact ⟨v', rfl, hown', ((Below.refl _ w).alloc (Nat.le_refl _) _).grown hg' (by simp) hlit.base_le⟩

theorem elem_str : ElemK 1 9 23 16 := ⟨Tryz.underlying23, _, _, rfl, rfl, rfl, rfl, rfl⟩
set_option maxHeartbeats 2000000 in
theorem clone_str (v : Value) (css : List (List Value)) (w : World) (hA : SlK w v css) (hk : ∀ cs ∈ css, cs.length = 1) (h1 : ∀ cs ∈ css, ∀ u ∈ cs, u.oneCell' = true) (hl : css.length ≤ 1000000000000) :
    Calls Tryz.prog 153 #[v] w fun e w' => ∃ v', e = .returned v' ∧ OwnC 1 9 w' w.heap.size v' css ∧ Below w.heap.size w w' := by
  obtain ⟨a, c, rfl, hc1, hc2, hx⟩ := id hA
  cases a with
  | none =>
    have hnil : css = [] := List.eq_nil_of_length_eq_zero (by have := hc2 rfl; omega)
    subst hnil
    obtain rfl := hc2 rfl
    clear hc2 hx
    have q := fun w => Lib.run_eql_slice_nil (P := Tryz.prog) w 23 _ none 0 0 0 0 Tryz.underlying23
    go_enter Tryz.func153, Tryz.ntmps153
    go_wp2
    go_ret
    exact ⟨_, rfl, OwnK.nil _ _, Below.refl _ _⟩
  | some ad =>
    have hlit := ownC_lit 1 9 w
    have q := fun w => Lib.run_eql_slice_nil (P := Tryz.prog) w 23 _ (some ad) css.length c 0 0 Tryz.underlying23
    go_enter Tryz.func153, Tryz.ntmps153
    go_wp2_with (at_builtin; refine wpl_append_slk (w.alloc (.cells #[] 9)) rfl (.tmp 5) (.tmp 6) elem_str (by decide) rfl w.heap.size _ [] rfl hlit _ css rfl (hA.below ((Below.refl _ w).alloc (Nat.le_refl _) _)) hk h1 (by simp) (by unfold maxLen; simp; omega) (by simp; omega) ?_; intro v' w' hown' hg')
    go_ret
    exact ⟨v', rfl, hown', ((Below.refl _ w).alloc (Nat.le_refl _) _).grown hg' (by simp) hlit.base_le⟩

theorem elem_byte : ElemK 1 5 99 1 := ⟨Tryz.underlying99, _, _, rfl, rfl, rfl, rfl, rfl⟩
set_option maxHeartbeats 2000000 in
theorem clone_byte (v : Value) (css : List (List Value)) (w : World) (hA : SlK w v css) (hk : ∀ cs ∈ css, cs.length = 1) (h1 : ∀ cs ∈ css, ∀ u ∈ cs, u.oneCell' = true) (hl : css.length ≤ 1000000000000) :
    Calls Tryz.prog 154 #[v] w fun e w' => ∃ v', e = .returned v' ∧ OwnC 1 5 w' w.heap.size v' css ∧ Below w.heap.size w w' := by
  obtain ⟨a, c, rfl, hc1, hc2, hx⟩ := id hA
  cases a with
  | none =>
    have hnil : css = [] := List.eq_nil_of_length_eq_zero (by have := hc2 rfl; omega)
    subst hnil
    obtain rfl := hc2 rfl
    clear hc2 hx
    have q := fun w => Lib.run_eql_slice_nil (P := Tryz.prog) w 99 _ none 0 0 0 0 Tryz.underlying99
    go_enter Tryz.func154, Tryz.ntmps154
    go_wp2
    go_ret
    exact ⟨_, rfl, OwnK.nil _ _, Below.refl _ _⟩
  | some ad =>
    have hlit := ownC_lit 1 5 w
    have q := fun w => Lib.run_eql_slice_nil (P := Tryz.prog) w 99 _ (some ad) css.length c 0 0 Tryz.underlying99
    go_enter Tryz.func154, Tryz.ntmps154
    go_wp2_with (at_builtin; refine wpl_append_slk (w.alloc (.cells #[] 5)) rfl (.tmp 5) (.tmp 6) elem_byte (by decide) rfl w.heap.size _ [] rfl hlit _ css rfl (hA.below ((Below.refl _ w).alloc (Nat.le_refl _) _)) hk h1 (by simp) (by unfold maxLen; simp; omega) (by simp; omega) ?_; intro v' w' hown' hg')
    go_ret
    exact ⟨v', rfl, hown', ((Below.refl _ w).alloc (Nat.le_refl _) _).grown hg' (by simp) hlit.base_le⟩
end Go.Proofs.YtckammgnmgkieaaGreat

/-
  A row cut into runs of records that are the same: plain facts.
-/
namespace Go.Proofs.YtckammgnmgkieaaGreat
set_option maxRecDepth 20000
open Go.RowKit Go.Shelf
set_option linter.unusedVariables false

def nxtM (rs : List Rc) (s : Nat) : Nat := match rs.drop s with
  | [] => s + 1
  | y :: r => s + 1 + (r.takeWhile (sameR y)).length
def segsF : Nat → Nat → List Rc → List (Nat × Nat)
  | 0, _, _ => []
  | f + 1, s, rs => if s < rs.length then (s, nxtM rs s) :: segsF f (nxtM rs s) rs else []
def segs (rs : List Rc) : List (Nat × Nat) := segsF rs.length 0 rs
theorem takeWhile_len {p : Rc → Bool} : ∀ (l : List Rc), (l.takeWhile p).length ≤ l.length ∧ (∀ j (hj : j < (l.takeWhile p).length) (h : j < l.length), p l[j] = true) ∧ (∀ h : (l.takeWhile p).length < l.length, p l[(l.takeWhile p).length] = false)
  | [] => ⟨Nat.le_refl _, fun j hj => by simp at hj, fun h => by simp at h⟩
  | x :: r => by
    obtain ⟨h1, h2, h3⟩ := takeWhile_len (p := p) r
    by_cases hx : p x = true
    · have e : (x :: r).takeWhile p = x :: r.takeWhile p := by rw [List.takeWhile_cons, if_pos hx]
      simp only [e, List.length_cons]
      refine ⟨by omega, fun j hj h => ?_, fun h => ?_⟩
      · cases j with
        | zero => exact hx
        | succ j => exact h2 j (by omega) (by omega)
      · exact h3 (by omega)
    · have hx' : p x = false := by simpa using hx
      have e : (x :: r).takeWhile p = [] := by rw [List.takeWhile_cons, if_neg hx]
      simp only [e, List.length_nil, List.length_cons]
      exact ⟨by omega, fun j hj => by omega, fun h => hx'⟩
theorem nxtM_at {rs : List Rc} {s : Nat} (hs : s < rs.length) : nxtM rs s = s + 1 + ((rs.drop (s + 1)).takeWhile (sameR rs[s])).length := by
  unfold nxtM
  rw [List.drop_eq_getElem_cons hs]
theorem nxtM_lt {rs : List Rc} {s : Nat} (hs : s < rs.length) : s < nxtM rs s ∧ nxtM rs s ≤ rs.length := by
  rw [nxtM_at hs]
  have := (takeWhile_len (p := sameR rs[s]) (rs.drop (s + 1))).1
  rw [List.length_drop] at this
  omega
theorem nxtM_more {rs : List Rc} {s e : Nat} (hs : s < rs.length) (h1 : s + 1 ≤ e) (h2 : e ≤ nxtM rs s) (he : e < rs.length) (hsame : sameR rs[s] rs[e] = true) : e + 1 ≤ nxtM rs s := by
  rw [nxtM_at hs] at h2 ⊢
  obtain ⟨t1, t2, t3⟩ := takeWhile_len (p := sameR rs[s]) (rs.drop (s + 1))
  rcases Nat.lt_or_ge e (s + 1 + ((rs.drop (s + 1)).takeWhile (sameR rs[s])).length) with h | h
  · omega
  · exfalso
    obtain ⟨j, rfl⟩ : ∃ j, e = s + 1 + j := ⟨e - (s + 1), by omega⟩
    have e1 : ((rs.drop (s + 1)).takeWhile (sameR rs[s])).length = j := by omega
    have := t3 (by rw [List.length_drop]; omega)
    simp only [e1, List.getElem_drop] at this
    rw [hsame] at this; cases this
theorem nxtM_stop {rs : List Rc} {s e : Nat} (hs : s < rs.length) (h1 : s + 1 ≤ e) (h2 : e ≤ nxtM rs s) (h : e = rs.length ∨ ∃ he : e < rs.length, sameR rs[s] rs[e] = false) : e = nxtM rs s := by
  have hn := nxtM_lt hs
  rcases h with h | ⟨he, h⟩
  · omega
  · rcases Nat.lt_or_ge e (nxtM rs s) with h3 | h3
    · exfalso
      rw [nxtM_at hs] at h3
      obtain ⟨t1, t2, t3⟩ := takeWhile_len (p := sameR rs[s]) (rs.drop (s + 1))
      obtain ⟨j, rfl⟩ : ∃ j, e = s + 1 + j := ⟨e - (s + 1), by omega⟩
      have := t2 j (by omega) (by rw [List.length_drop]; omega)
      simp only [List.getElem_drop] at this
      rw [h] at this; cases this
    · omega
theorem segsF_more (rs : List Rc) : ∀ (f s : Nat), rs.length - s ≤ f → segsF f s rs = segsF (rs.length - s) s rs
  | 0, s, h => by rw [show rs.length - s = 0 by omega]
  | f + 1, s, h => by
    by_cases hs : s < rs.length
    · have hn := nxtM_lt hs
      obtain ⟨m, hm⟩ : ∃ m, rs.length - s = m + 1 := ⟨rs.length - s - 1, by omega⟩
      rw [hm]
      simp only [segsF, if_pos hs]
      rw [segsF_more rs f (nxtM rs s) (by omega), segsF_more rs m (nxtM rs s) (by omega)]
    · rw [show rs.length - s = 0 by omega]
      simp only [segsF, if_neg hs]
def leftM (rs : List Rc) (s : Nat) : List (Nat × Nat) := segsF (rs.length - s) s rs
theorem leftM_zero (rs : List Rc) : leftM rs 0 = segs rs := rfl
theorem leftM_end (rs : List Rc) {s : Nat} (h : rs.length ≤ s) : leftM rs s = [] := by unfold leftM; rw [show rs.length - s = 0 by omega]; rfl
theorem leftM_step {rs : List Rc} {s : Nat} (hs : s < rs.length) : leftM rs s = (s, nxtM rs s) :: leftM rs (nxtM rs s) := by
  have hn := nxtM_lt hs
  obtain ⟨m, hm⟩ : ∃ m, rs.length - s = m + 1 := ⟨rs.length - s - 1, by omega⟩
  unfold leftM
  rw [hm]
  simp only [segsF, if_pos hs]
  rw [segsF_more rs m (nxtM rs s) (by omega)]
def runR (rs : List Rc) (x : Nat × Nat) : Rc := match rs.drop x.1 with
  | [] => Rc.mk [] 0 ⟨0, [], [], [], []⟩
  | y :: r => ⟨y.owner, leastM y.ttl (r.take (x.2 - x.1 - 1)), y.data⟩
theorem takeWhile_take (p : Rc → Bool) : ∀ l : List Rc, l.take (l.takeWhile p).length = l.takeWhile p ∧ l.drop (l.takeWhile p).length = l.dropWhile p
  | [] => ⟨rfl, rfl⟩
  | x :: r => by
    have ih := takeWhile_take p r
    by_cases hx : p x = true
    · simp only [List.takeWhile_cons, List.dropWhile_cons, hx, if_true, List.length_cons, List.take_succ_cons, List.drop_succ_cons, ih.1, ih.2]
      exact ⟨trivial, trivial⟩
    · simp only [List.takeWhile_cons, List.dropWhile_cons, hx, Bool.false_eq_true, if_false, List.length_nil, List.take_zero, List.drop_zero]
      exact ⟨trivial, trivial⟩
theorem leftM_grp (rs : List Rc) : ∀ (n s : Nat), rs.length - s ≤ n → (leftM rs s).map (runR rs) = grp (rs.drop s)
  | n, s, h => by
    by_cases hs : s < rs.length
    · have hn := nxtM_lt hs
      have e1 := nxtM_at hs
      obtain ⟨t1, t2⟩ := takeWhile_take (sameR rs[s]) (rs.drop (s + 1))
      rw [leftM_step hs, List.map_cons, List.drop_eq_getElem_cons hs, grp_cons]
      have ed : (rs.drop (s + 1)).dropWhile (sameR rs[s]) = rs.drop (nxtM rs s) := by rw [← t2, List.drop_drop, e1]
      have er : runR rs (s, nxtM rs s) = ⟨rs[s].owner, leastM rs[s].ttl ((rs.drop (s + 1)).takeWhile (sameR rs[s])), rs[s].data⟩ := by
        unfold runR
        simp only [List.drop_eq_getElem_cons hs]
        rw [← t1, show nxtM rs s - s - 1 = ((rs.drop (s + 1)).takeWhile (sameR rs[s])).length by omega]
      rw [er, ed]
      cases n with
      | zero => omega
      | succ n => rw [leftM_grp rs n (nxtM rs s) (by omega)]
    · rw [leftM_end rs (by omega), List.drop_of_length_le (by omega)]
      rfl
theorem segs_grp (rs : List Rc) : (segs rs).map (runR rs) = grp rs := by rw [← leftM_zero, leftM_grp rs rs.length 0 (by omega)]; rfl
end Go.Proofs.YtckammgnmgkieaaGreat

/-
  A row of records cut into sets: plain facts. (The runs' facts are XRunP's, with another word for 'alike'.)
-/
namespace Go.Proofs.YtckammgnmgkieaaGreat
set_option maxRecDepth 20000
open Go.RowKit Go.Shelf
set_option linter.unusedVariables false

structure St where
  owner : Nm
  ty : Int
  ttl : Nat
  data : List Dat
def belM (o : Nm) (t : Int) (r : Rc) : Bool := decide (r.data.ty = t) && sameN r.owner o
def belR (y r : Rc) : Bool := belM y.owner y.data.ty r
theorem belR_refl (y : Rc) : belR y y = true := by simp [belR, belM, sameN_refl]
def stR (y : Rc) (r : List Rc) : St := ⟨y.owner, y.data.ty, leastM y.ttl r, y.data :: r.map Rc.data⟩
def setsF : Nat → List Rc → List St
  | 0, _ => []
  | _, [] => []
  | n + 1, y :: r => stR y (r.takeWhile (belR y)) :: setsF n (r.dropWhile (belR y))
theorem setsF_more : ∀ (n m : Nat) (l : List Rc), l.length ≤ n → l.length ≤ m → setsF n l = setsF m l
  | 0, 0, l, _, _ => rfl
  | 0, m + 1, l, h, _ => by
    have : l = [] := List.eq_nil_of_length_eq_zero (by omega)
    subst this; rfl
  | n + 1, 0, l, _, h => by
    have : l = [] := List.eq_nil_of_length_eq_zero (by omega)
    subst this; rfl
  | n + 1, m + 1, [], _, _ => rfl
  | n + 1, m + 1, y :: r, h1, h2 => by
    have hl : (r.dropWhile (belR y)).length ≤ r.length := (List.dropWhile_sublist _).length_le
    simp only [List.length_cons] at h1 h2
    simp only [setsF]
    rw [setsF_more n m _ (by omega) (by omega)]
def setsM (l : List Rc) : List St := setsF l.length l
theorem setsM_cons (y : Rc) (r : List Rc) : setsM (y :: r) = stR y (r.takeWhile (belR y)) :: setsM (r.dropWhile (belR y)) := by
  have hl : (r.dropWhile (belR y)).length ≤ r.length := (List.dropWhile_sublist _).length_le
  unfold setsM
  simp only [List.length_cons, setsF]
  rw [setsF_more r.length _ _ hl (Nat.le_refl _)]
theorem setsM_nil : setsM [] = [] := rfl

def nxtS (rs : List Rc) (s : Nat) : Nat := match rs.drop s with
  | [] => s + 1
  | y :: r => s + 1 + (r.takeWhile (belR y)).length
def segsH : Nat → Nat → List Rc → List (Nat × Nat)
  | 0, _, _ => []
  | f + 1, s, rs => if s < rs.length then (s, nxtS rs s) :: segsH f (nxtS rs s) rs else []
def segsS (rs : List Rc) : List (Nat × Nat) := segsH rs.length 0 rs
theorem nxtS_at {rs : List Rc} {s : Nat} (hs : s < rs.length) : nxtS rs s = s + 1 + ((rs.drop (s + 1)).takeWhile (belR rs[s])).length := by
  unfold nxtS
  rw [List.drop_eq_getElem_cons hs]
theorem nxtS_lt {rs : List Rc} {s : Nat} (hs : s < rs.length) : s < nxtS rs s ∧ nxtS rs s ≤ rs.length := by
  rw [nxtS_at hs]
  have := (takeWhile_len (p := belR rs[s]) (rs.drop (s + 1))).1
  rw [List.length_drop] at this
  omega
theorem nxtS_more {rs : List Rc} {s e : Nat} (hs : s < rs.length) (h1 : s + 1 ≤ e) (h2 : e ≤ nxtS rs s) (he : e < rs.length) (hsame : belR rs[s] rs[e] = true) : e + 1 ≤ nxtS rs s := by
  rw [nxtS_at hs] at h2 ⊢
  obtain ⟨t1, t2, t3⟩ := takeWhile_len (p := belR rs[s]) (rs.drop (s + 1))
  rcases Nat.lt_or_ge e (s + 1 + ((rs.drop (s + 1)).takeWhile (belR rs[s])).length) with h | h
  · omega
  · exfalso
    obtain ⟨j, rfl⟩ : ∃ j, e = s + 1 + j := ⟨e - (s + 1), by omega⟩
    have e1 : ((rs.drop (s + 1)).takeWhile (belR rs[s])).length = j := by omega
    have := t3 (by rw [List.length_drop]; omega)
    simp only [e1, List.getElem_drop] at this
    rw [hsame] at this; cases this
theorem nxtS_stop {rs : List Rc} {s e : Nat} (hs : s < rs.length) (h1 : s + 1 ≤ e) (h2 : e ≤ nxtS rs s) (h : e = rs.length ∨ ∃ he : e < rs.length, belR rs[s] rs[e] = false) : e = nxtS rs s := by
  have hn := nxtS_lt hs
  rcases h with h | ⟨he, h⟩
  · omega
  · rcases Nat.lt_or_ge e (nxtS rs s) with h3 | h3
    · exfalso
      rw [nxtS_at hs] at h3
      obtain ⟨t1, t2, t3⟩ := takeWhile_len (p := belR rs[s]) (rs.drop (s + 1))
      obtain ⟨j, rfl⟩ : ∃ j, e = s + 1 + j := ⟨e - (s + 1), by omega⟩
      have := t2 j (by omega) (by rw [List.length_drop]; omega)
      simp only [List.getElem_drop] at this
      rw [h] at this; cases this
    · omega
theorem segsH_more (rs : List Rc) : ∀ (f s : Nat), rs.length - s ≤ f → segsH f s rs = segsH (rs.length - s) s rs
  | 0, s, h => by rw [show rs.length - s = 0 by omega]
  | f + 1, s, h => by
    by_cases hs : s < rs.length
    · have hn := nxtS_lt hs
      obtain ⟨m, hm⟩ : ∃ m, rs.length - s = m + 1 := ⟨rs.length - s - 1, by omega⟩
      rw [hm]
      simp only [segsH, if_pos hs]
      rw [segsH_more rs f (nxtS rs s) (by omega), segsH_more rs m (nxtS rs s) (by omega)]
    · rw [show rs.length - s = 0 by omega]
      simp only [segsH, if_neg hs]
def leftS (rs : List Rc) (s : Nat) : List (Nat × Nat) := segsH (rs.length - s) s rs
theorem leftS_zero (rs : List Rc) : leftS rs 0 = segsS rs := rfl
theorem leftS_end (rs : List Rc) {s : Nat} (h : rs.length ≤ s) : leftS rs s = [] := by unfold leftS; rw [show rs.length - s = 0 by omega]; rfl
theorem leftS_step {rs : List Rc} {s : Nat} (hs : s < rs.length) : leftS rs s = (s, nxtS rs s) :: leftS rs (nxtS rs s) := by
  have hn := nxtS_lt hs
  obtain ⟨m, hm⟩ : ∃ m, rs.length - s = m + 1 := ⟨rs.length - s - 1, by omega⟩
  unfold leftS
  rw [hm]
  simp only [segsH, if_pos hs]
  rw [segsH_more rs m (nxtS rs s) (by omega)]
def setR (rs : List Rc) (x : Nat × Nat) : St := match rs.drop x.1 with
  | [] => ⟨[], 0, 0, []⟩
  | y :: r => stR y (r.take (x.2 - x.1 - 1))
theorem leftS_sets (rs : List Rc) : ∀ (n s : Nat), rs.length - s ≤ n → (leftS rs s).map (setR rs) = setsM (rs.drop s)
  | n, s, h => by
    by_cases hs : s < rs.length
    · have hn := nxtS_lt hs
      have e1 := nxtS_at hs
      obtain ⟨t1, t2⟩ := takeWhile_take (belR rs[s]) (rs.drop (s + 1))
      rw [leftS_step hs, List.map_cons, List.drop_eq_getElem_cons hs, setsM_cons]
      have ed : (rs.drop (s + 1)).dropWhile (belR rs[s]) = rs.drop (nxtS rs s) := by rw [← t2, List.drop_drop, e1]
      have er : setR rs (s, nxtS rs s) = stR rs[s] ((rs.drop (s + 1)).takeWhile (belR rs[s])) := by
        unfold setR
        simp only [List.drop_eq_getElem_cons hs]
        rw [← t1, show nxtS rs s - s - 1 = ((rs.drop (s + 1)).takeWhile (belR rs[s])).length by omega]
      rw [er, ed]
      cases n with
      | zero => omega
      | succ n => rw [leftS_sets rs n (nxtS rs s) (by omega)]
    · rw [leftS_end rs (by omega), List.drop_of_length_le (by omega)]
      rfl
theorem segs_sets (rs : List Rc) : (segsS rs).map (setR rs) = setsM rs := by rw [← leftS_zero, leftS_sets rs rs.length 0 (by omega)]; rfl
end Go.Proofs.YtckammgnmgkieaaGreat

/-
  Sets of a row in its own order: what SetsAll asks of them.
-/
namespace Go.Proofs.YtckammgnmgkieaaGreat
set_option maxRecDepth 20000
open Go.RowKit Go.Shelf
open Stb (COrd)
set_option linter.unusedVariables false

def keyR (a b : Rc) : Int := orI (compareN a.owner b.owner) (cmpI a.data.ty b.data.ty)
theorem cord_keyR : COrd keyR := cord_orI (cord_on cord_compareN Rc.owner) (cord_on (cord_on cord_cmpI Dat.ty) Rc.data)
theorem cmpI_zero {a b : Int} : cmpI a b = 0 ↔ a = b := by
  unfold cmpI
  constructor
  · intro h
    by_cases h1 : a < b
    · rw [if_pos h1] at h; cases h
    · rw [if_neg h1] at h
      by_cases h2 : b < a
      · simp [h2] at h
      · omega
  · rintro rfl; simp
theorem keyR_zero (a b : Rc) : keyR a b = 0 ↔ belR b a = true := by
  unfold keyR belR belM orI
  rw [Bool.and_eq_true, decide_eq_true_eq]
  by_cases h : compareN a.owner b.owner = 0
  · rw [if_pos h]
    exact ⟨fun h2 => ⟨cmpI_zero.1 h2, (compareN_zero _ _).1 h⟩, fun h2 => cmpI_zero.2 h2.1⟩
  · rw [if_neg h]
    exact ⟨fun h2 => absurd h2 h, fun h2 => absurd ((compareN_zero _ _).2 h2.2) h⟩
theorem keyR_of {a b : Rc} (h : compareR a b ≤ 0) : keyR a b ≤ 0 := by
  unfold compareR compareD orI at h
  unfold keyR orI
  by_cases h1 : compareN a.owner b.owner = 0
  · rw [if_pos h1] at h ⊢
    by_cases h2 : cmpI a.data.ty b.data.ty = 0
    · omega
    · rw [if_neg h2] at h; exact h
  · rw [if_neg h1] at h ⊢; exact h
theorem keyR_eq {a b : Rc} (h : compareR a b = 0) : keyR a b = 0 := by
  have h1 := keyR_of (a := a) (b := b) (by omega)
  have h2 := keyR_of (a := b) (b := a) (by have := cR_anti a b; omega)
  have h3 := cord_keyR.anti a b
  omega
theorem keyR_sym {a b : Rc} (h : keyR a b = 0) : keyR b a = 0 := by have := cord_keyR.anti a b; omega
theorem belM_eq {o : Nm} {t : Int} {a b : Rc} (h : keyR a b = 0) : belM o t a = belM o t b := by
  have h1 := (keyR_zero a b).1 h
  unfold belR belM at h1
  rw [Bool.and_eq_true, decide_eq_true_eq] at h1
  unfold belM
  rw [h1.1]
  congr 1
  have e := h1.2
  cases h2 : sameN b.owner o with
  | true => exact sameN_trans e h2
  | false =>
    cases h3 : sameN a.owner o with
    | false => rfl
    | true => rw [sameN_symm] at e; rw [sameN_trans e h3] at h2; cases h2
theorem filter_gt {p : Rc → Bool} {x : Rc} : ∀ (c : List Rc), (∀ y ∈ c, 0 < compareR y x) → insR (c.filter p) x = x :: c.filter p := fun c h => by
  cases e : c.filter p with
  | nil => rfl
  | cons z r =>
    have hz : z ∈ c := (List.mem_filter.1 (show z ∈ c.filter p by rw [e]; simp)).1
    have := h z hz
    rw [insR, if_neg (by omega), if_neg (by omega)]
theorem insR_filter {p : Rc → Bool} (hp : ∀ a b, compareR a b = 0 → p a = p b) (x : Rc) : ∀ (c : List Rc), StrictR c → (∀ y ∈ c, p ⟨y.owner, minT y.ttl x.ttl, y.data⟩ = p y) → (insR c x).filter p = if p x = true then insR (c.filter p) x else c.filter p
  | [], _, _ => by
    by_cases hx : p x = true
    · simp [insR, hx]
    · simp [insR, hx]
  | y :: r, hs, hm => by
    have hs2 : StrictR r := (List.pairwise_cons.1 hs).2
    have hy := (List.pairwise_cons.1 hs).1
    have ih := insR_filter hp x r hs2 (fun z hz => hm z (by simp [hz]))
    by_cases h1 : compareR y x < 0
    · rw [insR, if_pos h1, List.filter_cons, ih, List.filter_cons]
      by_cases hpy : p y = true
      · rw [if_pos hpy, if_pos hpy]
        by_cases hx : p x = true
        · rw [if_pos hx, if_pos hx, insR, if_pos h1]
        · rw [if_neg hx, if_neg hx]
      · rw [if_neg hpy, if_neg hpy]
    · by_cases h2 : compareR y x = 0
      · have e := hp y x h2
        have em := hm y (by simp)
        rw [insR, if_neg h1, if_pos h2, List.filter_cons, em, List.filter_cons]
        by_cases hpy : p y = true
        · rw [if_pos hpy, if_pos hpy, if_pos (by rw [← e]; exact hpy), insR, if_neg h1, if_pos h2]
        · rw [if_neg hpy, if_neg hpy, if_neg (by rw [← e]; exact hpy)]
      · rw [insR, if_neg h1, if_neg h2, List.filter_cons]
        by_cases hx : p x = true
        · rw [if_pos hx, if_pos hx]
          refine (filter_gt (y :: r) fun z hz => ?_).symm
          rcases List.mem_cons.1 hz with rfl | hz
          · have := compareR_range z x; omega
          · have h3 := hy z hz
            have h4 : compareR x y ≤ 0 := by have := cR_anti y x; omega
            have h5 := cR_le_lt h4 h3
            have := cR_anti x z
            omega
        · rw [if_neg hx, if_neg hx]
theorem canonM_filter (o : Nm) (t : Int) (l : List Rc) : canonM (l.filter (belM o t)) = (canonM l).filter (belM o t) :=
  list_snoc_ind (P := fun l => canonM (l.filter (belM o t)) = (canonM l).filter (belM o t)) rfl (fun l x ih => by
    rw [canonM_snoc, insR_filter (fun a b h => belM_eq (keyR_eq h)) x _ (canonM_can l).up (fun y _ => rfl), List.filter_append]
    by_cases hx : belM o t x = true
    · rw [if_pos hx, List.filter_cons, if_pos hx, List.filter_nil, canonM_snoc, ih]
    · rw [if_neg hx, List.filter_cons, if_neg hx, List.filter_nil, List.append_nil, ih]) l
theorem all_takeWhile {p : Rc → Bool} : ∀ (l : List Rc), (∀ z ∈ l, p z = true) → l.takeWhile p = l ∧ l.dropWhile p = [] := fun l h => by
  have := takeWhile_app (p := p) l [] h (fun z hz => by cases hz)
  simpa using this
theorem takeWhile_all {p : Rc → Bool} : ∀ (l : List Rc), ∀ z ∈ l.takeWhile p, p z = true
  | [], z, h => by cases h
  | x :: r, z, h => by
    by_cases hx : p x = true
    · rw [List.takeWhile_cons, if_pos hx] at h
      rcases List.mem_cons.1 h with rfl | h
      · exact hx
      · exact takeWhile_all r z h
    · rw [List.takeWhile_cons, if_neg hx] at h; cases h
theorem drop_other {y : Rc} {r : List Rc} (hs : StrictR (y :: r)) : ∀ z ∈ r.dropWhile (belR y), belR y z = false := by
  have hd := dropWhile_head (belR y) r
  have hsub : ∀ z ∈ r.dropWhile (belR y), z ∈ r := fun z hz => (List.dropWhile_sublist _).subset hz
  have hst : StrictR (r.dropWhile (belR y)) := List.Pairwise.sublist (List.dropWhile_sublist _) (List.pairwise_cons.1 hs).2
  cases e : r.dropWhile (belR y) with
  | nil => intro z hz; cases hz
  | cons d D =>
    rw [e] at hd hsub hst
    have h1 : belR y d = false := hd d (by simp)
    have h2 : compareR y d < 0 := (List.pairwise_cons.1 hs).1 d (hsub d (by simp))
    have k1 : keyR d y ≠ 0 := fun h => by rw [(keyR_zero d y).1 h] at h1; cases h1
    have k2 : keyR y d ≤ 0 := keyR_of (by omega)
    have k3 : keyR y d < 0 := by have := cord_keyR.anti y d; omega
    intro z hz
    rcases List.mem_cons.1 hz with rfl | hz
    · exact h1
    · have h3 : compareR d z < 0 := (List.pairwise_cons.1 hst).1 z hz
      have k4 : keyR d z ≤ 0 := keyR_of (by omega)
      cases hb : belR y z with
      | false => rfl
      | true =>
        have k5 : keyR z y = 0 := (keyR_zero z y).2 hb
        have k6 := cord_keyR.trans d z y k4 (by omega)
        have := cord_keyR.anti d y
        omega
theorem belR_trans {a b c : Rc} (h1 : belR a b = true) (h2 : belR a c = true) : belR b c = true := by
  have k1 := (keyR_zero b a).2 h1
  have k2 := (keyR_zero c a).2 h2
  have k3 := keyR_sym k1
  refine (keyR_zero c b).1 ?_
  have t1 := cord_keyR.trans c a b (by omega) (by omega)
  have t2 := cord_keyR.trans b a c (by omega) (by have := keyR_sym k2; omega)
  have := cord_keyR.anti c b
  omega
theorem sets_filter : ∀ (n : Nat) (c : List Rc), c.length ≤ n → StrictR c → ∀ s ∈ setsM c, ∃ y r, s = stR y r ∧ y ∈ c ∧ c.filter (belM s.owner s.ty) = y :: r
  | 0, c, hn, _, s, h => by
    obtain rfl : c = [] := List.eq_nil_of_length_eq_zero (by omega)
    cases h
  | n + 1, [], _, _, s, h => by cases h
  | n + 1, y :: r, hn, hs, s, h => by
    have hl : (r.dropWhile (belR y)).length ≤ r.length := (List.dropWhile_sublist _).length_le
    have hst : StrictR (r.dropWhile (belR y)) := List.Pairwise.sublist (List.dropWhile_sublist _) (List.pairwise_cons.1 hs).2
    have hr : r = r.takeWhile (belR y) ++ r.dropWhile (belR y) := (List.takeWhile_append_dropWhile).symm
    have hno := drop_other hs
    have hall := takeWhile_all (p := belR y) r
    rw [setsM_cons] at h
    rcases List.mem_cons.1 h with rfl | h
    · refine ⟨y, r.takeWhile (belR y), rfl, by simp, ?_⟩
      have e : (fun z => belM (stR y (r.takeWhile (belR y))).owner (stR y (r.takeWhile (belR y))).ty z) = belR y := rfl
      show (y :: r).filter (belR y) = _
      rw [List.filter_cons, if_pos (belR_refl y)]
      congr 1
      rw (occs := .pos [1]) [hr]
      rw [List.filter_append, List.filter_eq_self.2 hall, List.filter_eq_nil_iff.2 (fun z hz => by rw [hno z hz]; simp), List.append_nil]
    · simp only [List.length_cons] at hn
      obtain ⟨y', r', e1, e2, e3⟩ := sets_filter n _ (by omega) hst s h
      refine ⟨y', r', e1, List.mem_cons_of_mem _ ((List.dropWhile_sublist _).subset e2), ?_⟩
      have hb : ∀ z, belR y z = true → belM s.owner s.ty z = false := fun z hz => by
        cases hh : belM s.owner s.ty z with
        | false => rfl
        | true =>
          exfalso
          have h5 : belR y' z = true := by rw [e1] at hh; exact hh
          have h6 := hno y' e2
          have k1 := (keyR_zero z y').2 h5
          have k2 := (keyR_zero z y).2 hz
          have : belR z y' = true := (keyR_zero y' z).1 (keyR_sym k1)
          have h7 : belR z y = true := (keyR_zero y z).1 (keyR_sym k2)
          rw [belR_trans h7 this] at h6; cases h6
      rw [List.filter_cons, if_neg (by rw [hb y (belR_refl y)]; simp)]
      rw (occs := .pos [1]) [hr]
      rw [List.filter_append, List.filter_eq_nil_iff.2 (fun z hz => by rw [hb z (hall z hz)]; simp), List.nil_append, e3]
theorem setsM_all {y : Rc} {r : List Rc} (h : ∀ z ∈ r, belR y z = true) : setsM (y :: r) = [stR y r] := by
  rw [setsM_cons, (all_takeWhile r h).1, (all_takeWhile r h).2]; rfl
def ofM (l : List Rc) (o : Nm) (t : Int) : Option St := (setsM (canonM (l.filter (belM o t)))).head?
theorem sets_count : ∀ (n : Nat) (c : List Rc), c.length ≤ n → ((setsM c).map fun s => s.data.length).sum = c.length
  | 0, c, hn => by
    obtain rfl : c = [] := List.eq_nil_of_length_eq_zero (by omega)
    rfl
  | n + 1, [], _ => rfl
  | n + 1, y :: r, hn => by
    have hl : (r.dropWhile (belR y)).length ≤ r.length := (List.dropWhile_sublist _).length_le
    simp only [List.length_cons] at hn
    have hr : (r.takeWhile (belR y)).length + (r.dropWhile (belR y)).length = r.length := by
      rw [← List.length_append, List.takeWhile_append_dropWhile]
    rw [setsM_cons, List.map_cons, List.sum_cons, sets_count n _ (by omega)]
    simp only [stR, List.length_cons, List.length_map]
    omega
end Go.Proofs.YtckammgnmgkieaaGreat

/-
  A zone as a plain origin and a plain row: ancestors, cuts, depth, wildcards (plain).
-/
namespace Go.Proofs.YtckammgnmgkieaaGreat
set_option maxRecDepth 20000
set_option linter.unusedVariables false
def ancN (n : Nm) (k : Nat) : Nm := n.drop (n.length - k)
theorem ancN_len {n : Nm} {k : Nat} (h : k ≤ n.length) : (ancN n k).length = k := by simp [ancN]; omega
theorem ancN_all (n : Nm) : ancN n n.length = n := by simp [ancN]
theorem ancN_anc {n : Nm} {k j : Nat} (h : j ≤ k) (hk : k ≤ n.length) : ancN (ancN n k) j = ancN n j := by
  unfold ancN
  rw [List.drop_drop, List.length_drop]; congr 1; omega
theorem under_sameN {a b : Nm} (h : sameN a b = true) (n : Nm) : underN n a = underN n b := by
  rw [Bool.eq_iff_iff, underN_iff, underN_iff, (sameN_iff _ _).1 h]
theorem under_anc (n : Nm) (k : Nat) : underN n (ancN n k) = true := by
  rw [underN_iff]
  exact ⟨(foldN n).take (n.length - k), by simp [ancN, foldN, List.map_drop]⟩
theorem under_up {w n : Nm} {k j : Nat} (h : underN w (ancN n k) = true) (hj : j ≤ k) (hk : k ≤ n.length) : underN w (ancN n j) = true := by
  refine underN_trans h ?_
  rw [← ancN_anc hj hk]
  exact under_anc _ _
theorem under_same {n z : Nm} (h : underN n z = true) : sameN (ancN n z.length) z = true := by
  obtain ⟨p, e⟩ := (underN_iff _ _).1 h
  rw [sameN_iff]
  have hl : n.length = p.length + z.length := by have := congrArg List.length e; simpa [foldN] using this
  have : foldN (ancN n z.length) = (foldN n).drop p.length := by
    unfold ancN foldN
    rw [List.map_drop, show n.length - z.length = p.length by omega]
  rw [this, e, List.drop_left]
theorem under_of_same {n z : Nm} (h : sameN (ancN n z.length) z = true) : underN n z = true := by
  rw [← under_sameN h]; exact under_anc _ _
theorem anc_under {n z : Nm} {k : Nat} (hk : k ≤ n.length) (hz : z.length ≤ k) : underN (ancN n k) z = underN n z := by
  rw [Bool.eq_iff_iff]
  constructor
  · exact fun h => underN_trans (under_anc _ _) h
  · intro h
    have := under_same h
    rw [← ancN_anc hz hk] at this
    exact under_of_same this

def deepF : Nat → Nm → Nm → Nat → Nat
  | 0, _, _, f => f
  | k + 1, n, w, f => if underN w (ancN n (f + 1)) then deepF k n w (f + 1) else f
def deepM (n w : Nm) (f : Nat) : Nat := deepF (n.length - f) n w f
def depthM (o : Nm) (rs : List Rc) (n : Nm) : Nat := rs.foldl (fun f r => deepM n r.owner f) o.length
theorem deepF_spec : ∀ (k : Nat) (n w : Nm) (f : Nat), f + k = n.length → f ≤ deepF k n w f ∧ deepF k n w f ≤ n.length ∧ (deepF k n w f = f ∨ underN w (ancN n (deepF k n w f)) = true) ∧ ∀ s, s ≤ n.length → underN w (ancN n s) = true → s ≤ deepF k n w f
  | 0, n, w, f, h => ⟨Nat.le_refl _, by simp [deepF]; omega, .inl rfl, fun s hs _ => by simp [deepF]; omega⟩
  | k + 1, n, w, f, h => by
    unfold deepF
    by_cases hu : underN w (ancN n (f + 1)) = true
    · rw [if_pos hu]
      obtain ⟨h1, h2, h3, h4⟩ := deepF_spec k n w (f + 1) (by omega)
      refine ⟨by omega, h2, .inr ?_, h4⟩
      rcases h3 with e | e
      · rw [e]; exact hu
      · exact e
    · rw [if_neg hu]
      refine ⟨Nat.le_refl _, by omega, .inl rfl, fun s hs hs2 => ?_⟩
      refine Nat.le_of_not_lt fun hlt => hu ?_
      exact under_up hs2 (by omega) hs
theorem deepM_spec {n w : Nm} {f : Nat} (h : f ≤ n.length) : f ≤ deepM n w f ∧ deepM n w f ≤ n.length ∧ (deepM n w f = f ∨ underN w (ancN n (deepM n w f)) = true) ∧ ∀ s, s ≤ n.length → underN w (ancN n s) = true → s ≤ deepM n w f :=
  deepF_spec _ n w f (by omega)
theorem deepM_step {n w : Nm} {f : Nat} (h : f < n.length) : deepM n w f = if underN w (ancN n (f + 1)) then deepM n w (f + 1) else f := by
  unfold deepM
  rw [show n.length - f = (n.length - (f + 1)) + 1 by omega]
  rfl
theorem deepM_end {n w : Nm} {f : Nat} (h : n.length ≤ f) : deepM n w f = f := by
  unfold deepM
  rw [show n.length - f = 0 by omega]; rfl
theorem depthF_spec (n : Nm) : ∀ (rs : List Rc) (f : Nat), f ≤ n.length → f ≤ rs.foldl (fun f r => deepM n r.owner f) f ∧ rs.foldl (fun f r => deepM n r.owner f) f ≤ n.length ∧
    (rs.foldl (fun f r => deepM n r.owner f) f = f ∨ ∃ r ∈ rs, underN r.owner (ancN n (rs.foldl (fun f r => deepM n r.owner f) f)) = true) ∧ ∀ r ∈ rs, ∀ s, s ≤ n.length → underN r.owner (ancN n s) = true → s ≤ rs.foldl (fun f r => deepM n r.owner f) f
  | [], f, h => ⟨Nat.le_refl _, h, .inl rfl, fun r hr => absurd hr (by simp)⟩
  | x :: rs, f, h => by
    obtain ⟨d1, d2, d3, d4⟩ := deepM_spec (w := x.owner) h
    obtain ⟨h1, h2, h3, h4⟩ := depthF_spec n rs (deepM n x.owner f) d2
    rw [List.foldl_cons]
    refine ⟨by omega, h2, ?_, fun r hr s hs hu => ?_⟩
    · rcases h3 with e | ⟨r, hr, e⟩
      · rw [e]
        rcases d3 with e2 | e2
        · exact .inl e2
        · exact .inr ⟨x, by simp, e2⟩
      · exact .inr ⟨r, by simp [hr], e⟩
    · rcases List.mem_cons.1 hr with rfl | hr
      · have := d4 s hs hu; omega
      · exact h4 r hr s hs hu
theorem depthM_spec {o n : Nm} (rs : List Rc) (h : o.length ≤ n.length) : o.length ≤ depthM o rs n ∧ depthM o rs n ≤ n.length ∧ (depthM o rs n = o.length ∨ ∃ r ∈ rs, underN r.owner (ancN n (depthM o rs n)) = true) ∧
    ∀ r ∈ rs, ∀ s, s ≤ n.length → underN r.owner (ancN n s) = true → s ≤ depthM o rs n := depthF_spec n rs _ h
theorem depthM_le {o n : Nm} (rs : List Rc) (h : o.length ≤ n.length) : depthM o rs n ≤ n.length := (depthM_spec rs h).2.1
def existsM (o : Nm) (rs : List Rc) (n : Nm) : Bool := underN n o && decide (depthM o rs n = n.length)
def encM (o : Nm) (rs : List Rc) (n : Nm) : Nm := if underN n o then ancN n (depthM o rs n) else []
def starM (o : Nm) (rs : List Rc) (n : Nm) : Nm := [42] :: encM o rs n
def sourceM (o : Nm) (rs : List Rc) (n : Nm) : Bool := rs.any fun r => sameN r.owner (starM o rs n)
def pointM (rs : List Rc) (n : Nm) : List Nat := (rs.filter fun r => decide (r.data.ty = 2) && underN n r.owner).map fun r => r.owner.length
def cutM (o : Nm) (rs : List Rc) (n : Nm) : Option Nat := if underN n o then (List.range' (o.length + 1) (n.length - o.length)).find? (fun s => (pointM rs n).contains s) else none
def whereM (o : Nm) (rs : List Rc) (n : Nm) : Int := if underN n o then (match cutM o rs n with | none => 1 | some s => if s = n.length then 2 else 3) else 0
def glueM (rs : List Rc) (h : Nm) : List Dat := ((ofM rs h 1).getD ⟨[], 0, 0, []⟩).data ++ ((ofM rs h 28).getD ⟨[], 0, 0, []⟩).data

theorem existsM_iff {o : Nm} {rs : List Rc} {n : Nm} (h : underN n o = true) : existsM o rs n = true ↔ (n.length = o.length ∨ ∃ r ∈ rs, underN r.owner n = true) := by
  have hl := underN_len h
  unfold existsM
  simp only [h, Bool.true_and, decide_eq_true_eq]
  obtain ⟨e1, e2, e3, e4⟩ := depthM_spec rs hl
  constructor
  · intro e
    rw [e] at e3
    rcases e3 with e3 | ⟨r, hr, e3⟩
    · exact .inl e3
    · rw [ancN_all] at e3; exact .inr ⟨r, hr, e3⟩
  · rintro (e | ⟨r, hr, e⟩)
    · omega
    · have := e4 r hr n.length (Nat.le_refl _) (by rw [ancN_all]; exact e)
      omega
theorem point_has {rs : List Rc} {n : Nm} {s : Nat} : (pointM rs n).contains s = rs.any fun r => decide (r.data.ty = 2) && underN n r.owner && decide (r.owner.length = s) := by
  rw [Bool.eq_iff_iff]
  simp only [pointM, List.contains_iff_mem, List.mem_map, List.mem_filter, List.any_eq_true, Bool.and_eq_true, decide_eq_true_eq]
  constructor
  · rintro ⟨r, ⟨h1, h2, h3⟩, h4⟩; exact ⟨r, h1, ⟨h2, h3⟩, h4⟩
  · rintro ⟨r, h1, ⟨h2, h3⟩, h4⟩; exact ⟨r, ⟨h1, h2, h3⟩, h4⟩
theorem find_congr {α : Type} {p q : α → Bool} : ∀ (l : List α), (∀ x ∈ l, p x = q x) → l.find? p = l.find? q
  | [], _ => rfl
  | x :: r, h => by
    rw [List.find?_cons, List.find?_cons, h x (by simp), find_congr r fun y hy => h y (by simp [hy])]
theorem find_append {α : Type} {p : α → Bool} (a b : List α) : (a ++ b).find? p = (a.find? p).or (b.find? p) := by
  rw [List.find?_append]
theorem range_split (a k m : Nat) (h : k ≤ m) : List.range' a m = List.range' a k ++ List.range' (a + k) (m - k) := by
  rw [List.range'_append_1]; congr 1; omega
theorem cutM_some {o : Nm} {rs : List Rc} {n : Nm} {s : Nat} (h : cutM o rs n = some s) : underN n o = true ∧ o.length < s ∧ s ≤ n.length := by
  unfold cutM at h
  by_cases hu : underN n o = true
  · rw [if_pos hu] at h
    have := List.mem_of_find?_eq_some h
    rw [List.mem_range'_1] at this
    have hl := underN_len hu
    exact ⟨hu, by omega, by omega⟩
  · rw [if_neg hu] at h; cases h
theorem cR_owner {a b : Rc} (h : compareR a b = 0) : sameN a.owner b.owner = true := by
  have := (keyR_zero a b).1 (keyR_eq h)
  simp only [belR, belM, Bool.and_eq_true, decide_eq_true_eq] at this
  exact this.2
theorem cR_type {a b : Rc} (h : compareR a b = 0) : a.data.ty = b.data.ty := by
  have := (keyR_zero a b).1 (keyR_eq h)
  simp only [belR, belM, Bool.and_eq_true, decide_eq_true_eq] at this
  exact this.1
def AlikeZ (l m : List Rc) : Prop := (∀ x ∈ l, ∃ y ∈ m, compareR y x = 0) ∧ ∀ x ∈ m, ∃ y ∈ l, compareR y x = 0
theorem AlikeZ.any {l m : List Rc} (h : AlikeZ l m) {p : Rc → Bool} (hp : ∀ a b, compareR a b = 0 → p a = p b) : l.any p = m.any p := by
  rw [Bool.eq_iff_iff, List.any_eq_true, List.any_eq_true]
  constructor
  · rintro ⟨x, hx, e⟩; obtain ⟨y, hy, h1⟩ := h.1 x hx; exact ⟨y, hy, by rw [hp y x h1]; exact e⟩
  · rintro ⟨x, hx, e⟩; obtain ⟨y, hy, h1⟩ := h.2 x hx; exact ⟨y, hy, by rw [hp y x h1]; exact e⟩
theorem AlikeZ.cut {l m : List Rc} (h : AlikeZ l m) (o n : Nm) : cutM o l n = cutM o m n := by
  unfold cutM
  congr 1
  refine find_congr _ fun s _ => ?_
  rw [point_has, point_has]
  refine h.any fun a b hab => ?_
  rw [cR_type hab, under_sameN (cR_owner hab), show a.owner.length = b.owner.length from by
    have := (sameN_iff _ _).1 (cR_owner hab)
    have := congrArg List.length this
    simpa [foldN] using this]
theorem AlikeZ.where {l m : List Rc} (h : AlikeZ l m) (o n : Nm) : whereM o l n = whereM o m n := by
  unfold whereM; rw [h.cut]

theorem enc_exists {o : Nm} {rs : List Rc} {n : Nm} (h : underN n o = true) : existsM o rs (encM o rs n) = true := by
  have hl := underN_len h
  obtain ⟨e1, e2, e3, e4⟩ := depthM_spec rs hl
  unfold encM
  rw [if_pos h, existsM_iff (by rw [anc_under e2 e1]; exact h), ancN_len e2]
  exact e3
end Go.Proofs.YtckammgnmgkieaaGreat

/-
  law12.known's zone, plain.
-/
namespace Go.Proofs.YtckammgnmgkieaaGreat
set_option maxRecDepth 20000
set_option linter.unusedVariables false
def kzO : Nm := [[111]]
def kzNs : Dat := ⟨2, [[[110, 115], [115], [111]]], [], [], []⟩
def kzA : Dat := ⟨1, [], [], [], [1, 2, 3, 4]⟩
def kzR1 : Rc := ⟨[[111]], 0, kzNs⟩
def kzR2 : Rc := ⟨[[83], [111]], 0, kzNs⟩
def kzR3 : Rc := ⟨[[110, 115], [115], [111]], 0, kzA⟩
def kzR4 : Rc := ⟨[[42], [119], [111]], 0, kzA⟩
def kzL : List Rc := [kzR1, kzR2, kzR3, kzR4]
theorem kz_canon : canonM kzL = kzL := by rfl
theorem kz_cut1 : cutM kzO kzL [[120], [115], [111]] = some 2 := by rfl
theorem kz_cut2 : cutM kzO kzL [[111]] = none := by rfl
theorem kz_source : sourceM kzO kzL [[113], [119], [111]] = true := by rfl
theorem kz_star : starM kzO kzL [[113], [119], [111]] = [[42], [119], [111]] := by rfl
theorem kz_glue : glueM kzL [[78, 83], [115], [111]] = [kzA] := by rfl
theorem kz_where1 : whereM kzO kzL [[115], [111]] = 2 := by rfl
theorem kz_where2 : whereM kzO kzL [[120], [115], [111]] = 3 := by rfl
theorem kz_where3 : whereM kzO kzL [[112]] = 0 := by rfl
theorem kz_where4 : whereM kzO kzL [[121], [111]] = 1 := by rfl
theorem kz_exists1 : existsM kzO kzL [[119], [111]] = true := by rfl
theorem kz_exists2 : existsM kzO kzL [[118], [111]] = false := by rfl
theorem kz_enc : encM kzO kzL [[113], [118], [111]] = [[111]] := by rfl
theorem kzNs_ok : DatOK kzNs := ⟨⟨by decide, by decide⟩, by decide, (fun n h => by simp only [kzNs, List.mem_singleton] at h; subst h; exact ⟨by decide, by decide⟩), by decide, (fun n h => by cases h), ⟨by decide, (fun n h => by cases h)⟩, by decide⟩
theorem kzA_ok : DatOK kzA := ⟨⟨by decide, by decide⟩, by decide, (fun n h => by cases h), by decide, (fun n h => by cases h), ⟨by decide, (fun n h => by cases h)⟩, by decide⟩
theorem kz_ok : ∀ r ∈ kzL, RcOK r := by
  intro r hr
  simp only [kzL, List.mem_cons, List.not_mem_nil, or_false] at hr
  rcases hr with rfl | rfl | rfl | rfl
  · exact ⟨⟨by decide, by decide⟩, by decide, kzNs_ok⟩
  · exact ⟨⟨by decide, by decide⟩, by decide, kzNs_ok⟩
  · exact ⟨⟨by decide, by decide⟩, by decide, kzA_ok⟩
  · exact ⟨⟨by decide, by decide⟩, by decide, kzA_ok⟩
end Go.Proofs.YtckammgnmgkieaaGreat

