/-
  Rows of k cells: literals, pieces, a store into one cell, appends in a drawn region.
-/
import Derived.Test.YtfcdajldpnomfaaMQ35
import Derived.Deep.RegionLaw
import Derived.Test.YtfcdajldpnomfaaMQ25
import Derived.Test.YtfcdajldpnomfaaMQ05
import Derived.Deep.RegionHeld3
import Derived.ProofKit
import Derived.OpenShut
import Derived.ShutString
import Derived.ChangeArms
import Derived.ChangeSlices
import Derived.SliceStrings
import Derived.Deep.Slices
import Derived.Shelf.Vars
import Derived.Handed
import Derived.HandedShaped
namespace Go.Proofs.Ytfcdajldpnomfaa
set_option maxRecDepth 20000
open Go.RowKit Go.Shelf
set_option maxRecDepth 20000
set_option linter.unusedVariables false
set_option linter.unusedSimpArgs false

theorem slAt_blk {W : World} {g : Nat} {l : List Value} {T : TypeId} (h : W.heap[g]? = some (.cells l.toArray T)) : SlAt W (.slice (some ⟨g, 0, none⟩) l.length l.length) l := by
  refine ⟨_, _, rfl, Nat.le_refl _, (fun e => by cases e), .inr ⟨g, 0, rfl, kblock_lt h, fun j hj => ?_⟩⟩
  have := kcell h j l[j] (by simp)
  rw [Nat.zero_add]; exact this
theorem slK_blk {W : World} {g : Nat} {css : List (List Value)} {T : TypeId} (h : W.heap[g]? = some (.cells css.flatten.toArray T)) : SlK W (.slice (some ⟨g, 0, none⟩) css.length css.length) css := by
  refine ⟨_, _, rfl, Nat.le_refl _, (fun e => by cases e), .inr ⟨g, 0, rfl, kblock_lt h, fun j u hj => ?_⟩⟩
  have := kcell h j u (by simpa using hj)
  rw [Nat.zero_add]; exact this
theorem flatten_set (K t : Nat) (u : Value) (ht : t < K) : ∀ (css : List (List Value)), (∀ cs ∈ css, cs.length = K) → ∀ (k : Nat) (h : k < css.length), (css.set k (css[k].set t u)).flatten = css.flatten.set (k * K + t) u
  | [], _, k, h => by simp at h
  | c :: r, hk, 0, _ => by
    have hc := hk c (by simp)
    simp only [List.getElem_cons_zero, List.set_cons_zero, List.flatten_cons, Nat.zero_mul, Nat.zero_add]
    rw [List.set_append_left t u (by omega)]
  | c :: r, hk, k + 1, h => by
    have hc := hk c (by simp)
    have ih := flatten_set K t u ht r (fun cs hcs => hk cs (by simp [hcs])) k (by simpa using h)
    simp only [List.getElem_cons_succ, List.set_cons_succ, List.flatten_cons]
    rw [ih, Nat.add_mul, Nat.one_mul]
    rw [List.set_append_right ((k * K + K + t)) u (by omega)]
    congr 2
    omega
theorem OwnC.put {T : TypeId} {W : World} {base g n c : Nat} {css : List (List Value)} (h : OwnC 7 T W base (.slice (some ⟨g, 0, none⟩) n c) css) (hk : ∀ cs ∈ css, cs.length = 7) (k : Nat) (hlt : k < css.length) (t : Nat) (ht : t < 7) (u : Value) :
    OwnC 7 T (W.setCell ⟨g, k * 7 + t, none⟩ u) base (.slice (some ⟨g, 0, none⟩) n c) (css.set k (css[k].set t u)) := by
  obtain ⟨hl, h⟩ := h
  rcases h with ⟨e, _⟩ | ⟨g', cap, cur, e, hb, hg, hc, hm, hsz, htk⟩
  · cases e
  · cases e
    have hfl : ((css.set k (css[k].set t u)).flatMap fun cs => cs) = (css.flatMap fun cs => cs).set (k * 7 + t) u := by
      rw [flat_id, flat_id, flatten_set 7 t u ht css hk k hlt]
    refine ⟨by rw [hfl, List.length_set, List.length_set]; exact hl, .inr ⟨g, c, cur.setIfInBounds (k * 7 + t) u, by rw [List.length_set], hb, kset hg _ u, by rw [List.length_set]; exact hc, hm, by simpa using hsz, ?_⟩⟩
    rw [hfl, List.length_set, ← htk, Array.toList_setIfInBounds]
    rw [List.take_set]
theorem SlK.takeK {W : World} {a : Option Addr} {n c : Nat} {css : List (List Value)} (h : SlK W (.slice a n c) css) (k : Nat) (hk : k ≤ n) : SlK W (.slice a k c) (css.take k) := by
  obtain ⟨a', c', e, h1, h2, h3⟩ := h
  cases e
  have hl : (css.take k).length = k := by rw [List.length_take]; omega
  refine ⟨a, c, by rw [hl], by rw [hl]; omega, h2, ?_⟩
  rcases h3 with h3 | ⟨b, off, e, hlt, hc⟩
  · left; rw [h3]; simp
  · right
    refine ⟨b, off, e, hlt, fun j u hj => hc j u ?_⟩
    have hsplit : css.flatten = (css.take k).flatten ++ (css.drop k).flatten := by rw [← List.flatten_append, List.take_append_drop]
    rw [hsplit, List.getElem?_append_left (List.getElem?_eq_some_iff.1 hj).1]
    exact hj
theorem SlK.dropK {W : World} {b off n c : Nat} {css : List (List Value)} (h : SlK W (.slice (some ⟨b, off, none⟩) n c) css) (h7 : ∀ cs ∈ css, cs.length = 7) (k : Nat) (hk : k ≤ n) : SlK W (.slice (some ⟨b, off + k * 7, none⟩) (n - k) (c - k)) (css.drop k) := by
  obtain ⟨a', c', e, h1, h2, h3⟩ := h
  cases e
  have hl : (css.drop k).length = css.length - k := List.length_drop
  refine ⟨_, _, by rw [hl], by rw [hl]; omega, (fun e => by cases e), ?_⟩
  rcases h3 with h3 | ⟨b', off', e, hlt, hc⟩
  · left; rw [h3]; simp
  · cases e
    right
    refine ⟨b, off + k * 7, rfl, hlt, fun j u hj => ?_⟩
    rw [Nat.add_assoc]
    refine hc _ _ ?_
    have hsplit : css.flatten = (css.take k).flatten ++ (css.drop k).flatten := by rw [← List.flatten_append, List.take_append_drop]
    have hz : (css.take k).flatten.length = k * 7 := by
      rw [flat_len _ (fun cs hcs => h7 cs (List.mem_of_mem_take hcs)), List.length_take]; congr 1; omega
    rw [hsplit, List.getElem?_append_right (by omega), hz, Nat.add_sub_cancel_left]
    exact hj
/-- append of a whole row to one of the call's own, as one operation. -/
theorem wp_append_slk {S T : TypeId} {k bytes : Nat} {o : Oper} {a : Act} {K : Act → World → Prop} {Q : Exit → Act → World → Prop} (W : World) (s x : Operand) (hE : ElemK k T S bytes) (hk0 : 0 < k)
    (ho : o.op = .call { callee := .builtin .append, args := #[s, x], argTypes := #[S, S] })
    (base : Nat) (v : Value) (xs : List (List Value)) (hs : a.eval s = v) (hown : OwnC k T W base v xs)
    (src : Value) (ys : List (List Value)) (hx : a.eval x = src) (hsrc : SlK W src ys) (hyk : ∀ cs ∈ ys, cs.length = k) (hy1 : ∀ cs ∈ ys, ∀ u ∈ cs, u.oneCell' = true)
    (hbase : base ≤ W.heap.size) (hk : xs.length + ys.length ≤ maxLen) (hk2 : (xs.length + ys.length) * bytes ≤ 140737488355328)
    (h : ∀ v' w', OwnC k T w' base v' (xs ++ ys) → W.grownBy w' v.ownBlock → K (a.put o.dst v') w') :
    o.wp Try.prog a W K Q := by
  obtain ⟨ht, i, z, hi, hz, hz1, hz2, hzc⟩ := hE
  obtain ⟨a0, c0, rfl, h1, h2, h3⟩ := hsrc
  have hlen := flat_len ys hyk
  cases a0 with
  | none =>
    have e3 := h2 rfl
    subst e3
    have e4 : ys = [] := List.eq_nil_of_length_eq_zero (by omega)
    subst e4
    have hrun := run_append_owned_none (P := Try.prog) (w := W) base S o.type _ i k ht hi v _ _ hown
    have hK := h v W (by rw [List.append_nil]; exact hown) ⟨rfl, rfl, rfl, Nat.le_refl _, fun _ _ _ => rfl⟩
    unfold Oper.wp
    simp [execOp, ho, resolve, invoke, builtin, hs, hx, hrun, Result.andThen]
    exact hK
  | some ad =>
    have hcell : ∀ j u, ys.flatten[j]? = some u → W.cell? (ad.add j) = some u := by
      intro j u hj
      rcases h3 with h3 | ⟨b, off, ea, _, hc⟩
      · subst h3; simp at hj
      · cases ea; rw [Addr.add_lit]; exact hc j u hj
    refine wp_append_own W s x S ho base _ i z k bytes ht hi hz hz1 hz2 hzc hk0 v xs.length (xs.flatMap fun cs => cs) hs hown ad ys.length c0 ys.flatten hx hlen hcell (by intro u hu; obtain ⟨y, hy, hu⟩ := List.mem_flatten.1 hu; exact hy1 y hy u hu) hk hk2 hbase ?_
    intro v' w' g1 g2 _
    refine h v' w' ?_ g2
    unfold OwnC OwnK
    rw [List.length_append, List.flatMap_append, flat_id ys]
    exact g1
theorem step_append_slk {S T : TypeId} {k bytes : Nat} {ops : Array Oper} {o : Oper} {a : Act} {K : Act → World → Prop} {Q : Exit → Act → World → Prop} {E : Prop} (W : World) (hgd : o.guard = none) (s x : Operand) (hE : ElemK k T S bytes) (hk0 : 0 < k)
    (ho : o.op = .call { callee := .builtin .append, args := #[s, x], argTypes := #[S, S] })
    (base : Nat) (v : Value) (xs : List (List Value)) (hs : a.eval s = v) (hown : OwnC k T W base v xs)
    (src : Value) (ys : List (List Value)) (hx : a.eval x = src) (hsrc : SlK W src ys) (hyk : ∀ cs ∈ ys, cs.length = k) (hy1 : ∀ cs ∈ ys, ∀ u ∈ cs, u.oneCell' = true)
    (hbase : base ≤ W.heap.size) (hk : xs.length + ys.length ≤ maxLen) (hk2 : (xs.length + ys.length) * bytes ≤ 140737488355328)
    (h : ∀ v' w', OwnC k T w' base v' (xs ++ ys) → W.grownBy w' v.ownBlock → K (a.put o.dst v') w') :
    if Region.wanted o (yielded ops a.tmps) = true then Oper.wp Try.prog o a W K Q else E := by
  have hw : Region.wanted o (yielded ops a.tmps) = true := by simp [Region.wanted, hgd]
  rw [if_pos hw]
  exact wp_append_slk W s x hE hk0 ho base v xs hs hown src ys hx hsrc hyk hy1 hbase hk hk2 h
end Go.Proofs.Ytfcdajldpnomfaa

/-
  rec.fresh: a record anew, in memory of its own.
-/
namespace Go.Proofs.Ytfcdajldpnomfaa
set_option maxRecDepth 20000
open Go.RowKit Go.Shelf
set_option maxRecDepth 20000
set_option linter.unusedVariables false
set_option linter.unusedSimpArgs false

theorem ownG_of_C {α : Type} {T : TypeId} {enc : α → Value} {W : World} {base : Nat} {v : Value} {xs : List α} (h : OwnC 1 T W base v (xs.map fun x => [enc x])) : OwnG T enc W base v xs := by
  unfold OwnG
  have e : (xs.map fun x => [enc x]).flatMap (fun cs => cs) = xs.map enc := by
    have : ∀ xs : List α, (xs.map fun x => [enc x]).flatMap (fun cs => cs) = xs.map enc := fun xs => by
      induction xs with
      | nil => rfl
      | cons x r ih => rw [List.map_cons, List.flatMap_cons, ih]; rfl
    exact this xs
  unfold OwnC OwnK at h
  rw [e, List.length_map] at h
  exact h
theorem results_rec {fn : Func} {t : Tmp} (h : fn.results = #[.cell t 53]) (tmps : Array Value) (W : World) {a : Nat} {x0 x1 x2 x3 x4 x5 x6 : Value}
    (ht : tmps.getD t undef = .pointer (some ⟨a, 0, none⟩)) (hb : W.heap[a]? = some (.cells #[x0, x1, x2, x3, x4, x5, x6] 53)) : (results fn tmps).run Try.prog W = .ok (.agg #[x0, x1, x2, x3, x4, x5, x6]) W := by
  have ht' : tmps[t]?.getD undef = .pointer (some ⟨a, 0, none⟩) := by rw [← ht]; simp
  have hu : ∀ w, Sem.run Try.prog (underlying 53) w = .ok _ w := run_underlying Try.underlying53
  have y0 := kcell hb 0 _ rfl; have y1 := kcell hb 1 _ rfl; have y2 := kcell hb 2 _ rfl; have y3 := kcell hb 3 _ rfl; have y4 := kcell hb 4 _ rfl; have y5 := kcell hb 5 _ rfl; have y6 := kcell hb 6 _ rfl
  simp [results, h, ht', loadVar, asAddr, go_sem, hu, y0, y1, y2, y3, y4, y5, y6, isAgg]
theorem OwnNms.snoc {W w' : World} {base : Nat} {v v' : Value} {vs : List SlV} {ns : List Nm} {x : SlV} {l : Nm} (h1 : OwnG 38 slEnc W base v vs) (h2 : vs.length = ns.length) (h3 : ∀ j (h1 : j < vs.length) (h2 : j < ns.length), OwnG 9 strV W base (slEnc vs[j]) ns[j])
    (hx : OwnG 9 strV W base (slEnc x) l) (hn : OwnG 38 slEnc w' base v' (vs ++ [x])) (hg : W.grownBy w' v.ownBlock) : OwnNms w' base v' (ns ++ [l]) := by
  refine ⟨vs ++ [x], hn, by simp; omega, fun j a b => ?_⟩
  by_cases hj : j < vs.length
  · rw [List.getElem_append_left hj, List.getElem_append_left (by omega)]
    exact (h3 j hj (by omega)).kept2 h1 (by decide) hg
  · obtain rfl : j = vs.length := by simp at a; omega
    have e1 : (vs ++ [x])[vs.length]'a = x := by simp
    have e2 : (ns ++ [l])[vs.length]'b = l := by simp [h2]
    rw [e1, e2]
    exact hx.kept2 h1 (by decide) hg

theorem DRow.keepB {W : World} {base : Nat} {vn vu vt vr : Value} {d : Dat} (h : DRow W base vn vu vt vr d) {B : Nat} {cs : Array Value} (hB : W.heap[B]? = some (.cells cs 53)) (j : Nat) (u : Value) : DRow (W.setCell ⟨B, j, none⟩ u) base vn vu vt vr d := by
  obtain ⟨⟨vs, h1, h2, h3⟩, i1, i2, i3⟩ := h
  exact ⟨⟨vs, h1.keptB hB (by decide) j u, h2, fun i a b => (h3 i a b).keptB hB (by decide) j u⟩, i1.keptB hB (by decide) j u, i2.keptB hB (by decide) j u, i3.keptB hB (by decide) j u⟩
/-- A record whose rows are all its own. -/
def FrAt (W : World) (base : Nat) (cs : List Value) (r : Rc) : Prop :=
  ∃ vo vn vu vt vr, cs = [vo, .int .u32 (r.ttl : Int), .int .i64 r.data.ty, vn, vu, vt, vr] ∧ OwnG 9 strV W base vo r.owner ∧ DRow W base vn vu vt vr r.data
theorem FrAt.rcAt {W : World} {base : Nat} {cs : List Value} {r : Rc} (h : FrAt W base cs r) : RcAt W cs r := by
  obtain ⟨vo, vn, vu, vt, vr, e, h1, h2⟩ := h
  exact ⟨vo, vn, vu, vt, vr, e, h1.nmAt, h2.datAt⟩
theorem FrAt.below {W W' : World} {base : Nat} {cs : List Value} {r : Rc} (h : FrAt W base cs r) (hb : Below W.heap.size W W') : FrAt W' base cs r := by
  obtain ⟨vo, vn, vu, vt, vr, e, h1, h2⟩ := h
  exact ⟨vo, vn, vu, vt, vr, e, h1.below hb, h2.below hb⟩
theorem FrAt.keepB {W : World} {base : Nat} {cs : List Value} {r : Rc} (h : FrAt W base cs r) {B : Nat} {xs : Array Value} (hB : W.heap[B]? = some (.cells xs 53)) (j : Nat) (u : Value) : FrAt (W.setCell ⟨B, j, none⟩ u) base cs r := by
  obtain ⟨vo, vn, vu, vt, vr, e, h1, h2⟩ := h
  exact ⟨vo, vn, vu, vt, vr, e, h1.keptB hB (by decide) j u, h2.keepB hB j u⟩
/-- .. under what a row of records of its own does to its block. -/
theorem OwnC.ne_block {k : Nat} {T : TypeId} {W : World} {base : Nat} {v : Value} {xss : List (List Value)} (h : OwnC k T W base v xss) {B : Nat} {cs : Array Value} {t : TypeId} (hB : W.heap[B]? = some (.cells cs t)) (ht : t ≠ T) : some B ≠ v.ownBlock := by
  intro e
  rcases h.2 with ⟨rfl, _⟩ | ⟨g, cap, cur, rfl, _, hg, _⟩
  · cases e
  · simp only [Value.ownBlock] at e
    cases e
    rw [hg] at hB
    injection hB with hB
    injection hB with h1 h2
    exact ht h2.symm
theorem OwnG.kept_c {α : Type} {T T' : TypeId} {enc : α → Value} {W W' : World} {base base' k : Nat} {v v' : Value} {xs : List α} {yss : List (List Value)} (h : OwnG T enc W base v xs) (h' : OwnC k T' W base' v' yss) (hT : T ≠ T') (hg : W.grownBy W' v'.ownBlock) : OwnG T enc W' base v xs := by
  refine h.kept hg ?_
  rcases h.2 with ⟨rfl, _⟩ | ⟨g, cap, cur, rfl, _, hh, _⟩
  · left; rfl
  · right
    intro e
    exact h'.ne_block hh hT e
theorem FrAt.grown {W W' : World} {base base' : Nat} {cs : List Value} {r : Rc} {v' : Value} {yss : List (List Value)} (h : FrAt W base cs r) (h' : OwnC 7 53 W base' v' yss) (hg : W.grownBy W' v'.ownBlock) : FrAt W' base cs r := by
  obtain ⟨vo, vn, vu, vt, vr, e, h1, ⟨⟨vs, k1, k2, k3⟩, i1, i2, i3⟩⟩ := h
  exact ⟨vo, vn, vu, vt, vr, e, h1.kept_c h' (by decide) hg, ⟨⟨vs, k1.kept_c h' (by decide) hg, k2, fun i a b => (k3 i a b).kept_c h' (by decide) hg⟩, i1.kept_c h' (by decide) hg, i2.kept_c h' (by decide) hg, i3.kept_c h' (by decide) hg⟩⟩
theorem FrAt.weaken {W : World} {base b2 : Nat} {cs : List Value} {r : Rc} (h : FrAt W base cs r) (hb : b2 ≤ base) : FrAt W b2 cs r := by
  obtain ⟨vo, vn, vu, vt, vr, e, h1, ⟨⟨vs, k1, k2, k3⟩, i1, i2, i3⟩⟩ := h
  exact ⟨vo, vn, vu, vt, vr, e, h1.weaken hb, ⟨⟨vs, k1.weaken hb, k2, fun i a b => (k3 i a b).weaken hb⟩, i1.weaken hb, i2.weaken hb, i3.weaken hb⟩⟩
def FreshPost (w : World) (r : Rc) (e : Ending) (w' : World) : Prop := ∃ cs, e = .returned (.agg cs.toArray) ∧ FrAt w' w.heap.size cs r ∧ Below w.heap.size w w'
/-- The three boxes. -/
structure FrB (w : World) (vo : Value) (t x : Int) (vn vu vt vr un uu ut ur : Value) (W : World) : Prop where
  p : W.heap[w.heap.size]? = some (.cells #[vo, .int .u32 t, .int .i64 x, vn, vu, vt, vr] 53)
  q : W.heap[w.heap.size + 1]? = some (.cells #[.slice none 0 0, .int .u32 0, .int .i64 0, .slice none 0 0, .slice none 0 0, .slice none 0 0, .slice none 0 0] 53)
  d : W.heap[w.heap.size + 1 + 1]? = some (.cells #[.int .i64 x, un, uu, ut, ur] 31)
theorem FrB.below {w W W' : World} {vo : Value} {t x : Int} {vn vu vt vr un uu ut ur : Value} (h : FrB w vo t x vn vu vt vr un uu ut ur W) (hb : Below W.heap.size W W') : FrB w vo t x vn vu vt vr un uu ut ur W' :=
  ⟨(hb.block _ (kblock_lt h.p)).trans h.p, (hb.block _ (kblock_lt h.q)).trans h.q, (hb.block _ (kblock_lt h.d)).trans h.d⟩
theorem FrB.grown {w W W' : World} {vo : Value} {t x : Int} {vn vu vt vr un uu ut ur : Value} (h : FrB w vo t x vn vu vt vr un uu ut ur W) {α : Type} {T : TypeId} {enc : α → Value} {base : Nat} {v : Value} {xs : List α} (ho : OwnG T enc W base v xs) (h1 : 53 ≠ T) (h2 : 31 ≠ T) (hg : W.grownBy W' v.ownBlock) : FrB w vo t x vn vu vt vr un uu ut ur W' :=
  ⟨(hg.block _ (kblock_lt h.p) (ho.ne_block h.p h1)).trans h.p, (hg.block _ (kblock_lt h.q) (ho.ne_block h.q h1)).trans h.q, (hg.block _ (kblock_lt h.d) (ho.ne_block h.d h2)).trans h.d⟩
theorem FrB.put {w W : World} {vo : Value} {t x : Int} {vn vu vt vr un uu ut ur : Value} (h : FrB w vo t x vn vu vt vr un uu ut ur W) (j : Nat) (u : Value) {un' uu' ut' ur' : Value} (hj : #[Value.int .i64 x, un, uu, ut, ur].setIfInBounds j u = #[.int .i64 x, un', uu', ut', ur']) :
    FrB w vo t x vn vu vt vr un' uu' ut' ur' (W.setCell ⟨w.heap.size + 1 + 1, j, none⟩ u) := by
  refine ⟨((grownBy_set W _ j u).block _ (kblock_lt h.p) (by simp; omega)).trans h.p, ((grownBy_set W _ j u).block _ (kblock_lt h.q) (by simp)).trans h.q, ?_⟩
  have := block_set h.d j u
  rw [hj] at this
  exact this
/-- The rows so far. -/
structure FrR (w : World) (r : Rc) (un : Value) (W : World) : Prop where
  names : OwnNms W w.heap.size un r.data.names
  below : Below w.heap.size w W
theorem FrR.next {w W W' : World} {r : Rc} {un : Value} (h : FrR w r un W) (hb : Below W.heap.size W W') : FrR w r un W' := ⟨h.names.below hb, h.below.trans (hb.mono h.below.size)⟩
theorem FrR.put {w W : World} {r : Rc} {un : Value} (h : FrR w r un W) {cs : Array Value} (hB : W.heap[w.heap.size + 1 + 1]? = some (.cells cs 31)) (j : Nat) (u : Value) : FrR w r un (W.setCell ⟨w.heap.size + 1 + 1, j, none⟩ u) :=
  ⟨h.names.keptB hB j u, h.below.setCell (p := ⟨w.heap.size + 1 + 1, j, none⟩) (by simp; omega) u⟩

/-- What the last region keeps. -/
structure SF (w : World) (r : Rc) (vo : Value) (t x : Int) (vn vu vt vr un uu ut ur : Value) (W : World) : Prop where
  p : W.heap[w.heap.size]? = some (.cells #[vo, .int .u32 t, .int .i64 x, vn, vu, vt, vr] 53)
  d : W.heap[w.heap.size + 1 + 1]? = some (.cells #[.int .i64 x, un, uu, ut, ur] 31)
  q : ∃ cs, W.heap[w.heap.size + 1]? = some (.cells cs 53) ∧ cs.size = 7
  row : DRow W w.heap.size un uu ut ur r.data
  below : Below w.heap.size w W
theorem SF.keep {w W W' : World} {r : Rc} {vo : Value} {t x : Int} {vn vu vt vr un uu ut ur : Value} (h : SF w r vo t x vn vu vt vr un uu ut ur W) (hb : Below W.heap.size W W') : SF w r vo t x vn vu vt vr un uu ut ur W' := by
  obtain ⟨cs, hq, hs⟩ := h.q
  exact ⟨(hb.block _ (kblock_lt h.p)).trans h.p, (hb.block _ (kblock_lt h.d)).trans h.d, ⟨cs, (hb.block _ (kblock_lt hq)).trans hq, hs⟩, h.row.below hb, h.below.trans (hb.mono h.below.size)⟩
theorem SF.put {w W : World} {r : Rc} {vo : Value} {t x : Int} {vn vu vt vr un uu ut ur : Value} (h : SF w r vo t x vn vu vt vr un uu ut ur W) (j : Nat) (u : Value) : SF w r vo t x vn vu vt vr un uu ut ur (W.setCell ⟨w.heap.size + 1, j, none⟩ u) := by
  obtain ⟨cs, hq, hs⟩ := h.q
  exact ⟨((grownBy_set W _ j u).block _ (kblock_lt h.p) (by simp)).trans h.p, ((grownBy_set W _ j u).block _ (kblock_lt h.d) (by simp)).trans h.d, ⟨_, block_set hq j u, by simp [hs]⟩, h.row.keepB hq j u, h.below.setCell (p := ⟨w.heap.size + 1, j, none⟩) (by simp) u⟩
theorem arr7 {cs : Array Value} (h : cs.size = 7) : ∃ q0 q1 q2 q3 q4 q5 q6, cs = #[q0, q1, q2, q3, q4, q5, q6] := by
  obtain ⟨l⟩ := cs
  match l, h with
  | [q0, q1, q2, q3, q4, q5, q6], _ => exact ⟨q0, q1, q2, q3, q4, q5, q6, rfl⟩
/-- The region's S. -/
def SS (w : World) (r : Rc) (vo : Value) (t x : Int) (vn vu vt vr un uu ut ur : Value) (W : World) : Prop :=
  W.cell? ⟨w.heap.size, 0, none⟩ = some vo ∧ W.cell? ⟨w.heap.size, 1, none⟩ = some (.int .u32 t) ∧ W.cell? ⟨w.heap.size + 1 + 1, 0, none⟩ = some (.int .i64 x) ∧ W.cell? ⟨w.heap.size + 1 + 1, 1, none⟩ = some un ∧ W.cell? ⟨w.heap.size + 1 + 1, 2, none⟩ = some uu ∧ W.cell? ⟨w.heap.size + 1 + 1, 3, none⟩ = some ut ∧ W.cell? ⟨w.heap.size + 1 + 1, 4, none⟩ = some ur ∧ SF w r vo t x vn vu vt vr un uu ut ur W
theorem SF.ss {w W : World} {r : Rc} {vo : Value} {t x : Int} {vn vu vt vr un uu ut ur : Value} (h : SF w r vo t x vn vu vt vr un uu ut ur W) : SS w r vo t x vn vu vt vr un uu ut ur W :=
  ⟨kcell h.p 0 _ rfl, kcell h.p 1 _ rfl, kcell h.d 0 _ rfl, kcell h.d 1 _ rfl, kcell h.d 2 _ rfl, kcell h.d 3 _ rfl, kcell h.d 4 _ rfl, h⟩
theorem SS.sf {w W : World} {r : Rc} {vo : Value} {t x : Int} {vn vu vt vr un uu ut ur : Value} (h : SS w r vo t x vn vu vt vr un uu ut ur W) : SF w r vo t x vn vu vt vr un uu ut ur W := h.2.2.2.2.2.2.2

set_option maxRecDepth 100000 in
set_option maxHeartbeats 16000000 in
theorem rec_fresh (cs : List Value) (r : Rc) (w : World) (hA : RcAt w cs r) (hk : RcOK r) :
    Calls Try.prog 28 #[.agg cs.toArray] w (FreshPost w r) := by
  obtain ⟨vo, vn, vu, vt, vr, rfl, a1, a2⟩ := hA
  obtain ⟨un, uu, ut, ur, e, n1, n2, n3, n4⟩ := a2
  have e' : #[Value.int .i64 r.data.ty, vn, vu, vt, vr] = #[Value.int .i64 r.data.ty, un, uu, ut, ur] := by injection e
  simp only [Array.mk.injEq, List.cons.injEq, and_true, true_and] at e'
  obtain ⟨rfl, rfl, rfl, rfl⟩ := e'
  clear e
  have HA := Lib.hid a1
  have HU := Lib.hid n2
  have HTX := Lib.hid n3
  have HRW := Lib.hid n4
  have HNMS := Lib.hid n1
  obtain ⟨vs, s1, sl, s2⟩ := n1
  obtain ⟨an, cn, rfl, x1⟩ := id s1
  obtain ⟨ao, co, rfl, -⟩ := nmAt_sl.1 a1
  obtain ⟨au, cu, rfl, -⟩ := n2
  obtain ⟨ax, cx, rfl, -⟩ := nmAt_sl.1 n3
  obtain ⟨ar, cr, rfl, -⟩ := n4
  obtain ⟨no, hno⟩ : ∃ m, (List.map strV r.owner).length = m := ⟨_, rfl⟩
  obtain ⟨nu, hnu⟩ : ∃ m, (List.map u32V r.data.nums).length = m := ⟨_, rfl⟩
  obtain ⟨nx, hnx⟩ : ∃ m, (List.map strV r.data.texts).length = m := ⟨_, rfl⟩
  obtain ⟨nr, hnr⟩ : ∃ m, (List.map bv r.data.raw).length = m := ⟨_, rfl⟩
  obtain ⟨n, hn⟩ : ∃ n, vs.length = n := ⟨_, rfl⟩
  obtain ⟨x, hx⟩ : ∃ x, r.data.ty = x := ⟨_, rfl⟩
  obtain ⟨t, ht⟩ : ∃ t, (r.ttl : Int) = t := ⟨_, rfl⟩
  have hnb : n ≤ 1048576 := by have := hk.2.2.2.1; omega
  have hcl : ∀ W, Below w.heap.size w W → ∀ j (hj : j < vs.length), ∃ b off, an = some ⟨b, off, none⟩ ∧ b < w.heap.size ∧ W.cell? ⟨b, off + j, none⟩ = some vs[j] := fun W hb j hj => s1.cell hb j hj
  have s2' : ∀ j (h1 : j < vs.length) (h2 : j < r.data.names.length), NmAt w vs[j] r.data.names[j] := fun j h1 _ => s2 j h1
  have HS2 := Lib.hid s2'
  have HK := Lib.hid hk; have HN := Lib.hid hn; have HX := Lib.hid hx; have HT := Lib.hid ht; have HSL := Lib.hid sl
  rw [hno] at HA ⊢
  rw [hnu] at HU ⊢
  rw [hnx] at HTX ⊢
  rw [hnr] at HRW ⊢
  rw [hn] at HNMS s1 ⊢
  rw [hx, ht]
  have hncn : n ≤ cn := by omega
  have HCL := Lib.hid hcl
  clear a1 s2 s2' hk hn hx ht hno hnu hnx hnr sl x1 hcl s1
  obtain ⟨W3, hW3⟩ : ∃ W3, ((w.alloc (.cells #[.slice ao no co, .int .u32 t, .int .i64 x, .slice an n cn, .slice au nu cu, .slice ax nx cx, .slice ar nr cr] 53)).alloc (.cells #[.slice none 0 0, .int .u32 0, .int .i64 0, .slice none 0 0, .slice none 0 0, .slice none 0 0, .slice none 0 0] 53)).alloc (.cells #[.int .i64 x, .slice an n cn, .slice au nu cu, .slice ax nx cx, .slice ar nr cr] 31) = W3 := ⟨_, rfl⟩
  have HF0 : Hid (FrB w (.slice ao no co) t x (.slice an n cn) (.slice au nu cu) (.slice ax nx cx) (.slice ar nr cr) (.slice an n cn) (.slice au nu cu) (.slice ax nx cx) (.slice ar nr cr) W3) := by
    rw [← hW3]
    refine Lib.hid ⟨?_, ?_, ?_⟩
    · exact (Below.heap_alloc _ _ _ (by simp; omega)).trans ((Below.heap_alloc _ _ _ (by simp)).trans (knew w _))
    · have := knew (w.alloc (.cells #[.slice ao no co, .int .u32 t, .int .i64 x, .slice an n cn, .slice au nu cu, .slice ax nx cx, .slice ar nr cr] 53)) (.cells #[.slice none 0 0, .int .u32 0, .int .i64 0, .slice none 0 0, .slice none 0 0, .slice none 0 0, .slice none 0 0] 53)
      rw [World.size_alloc] at this
      exact (Below.heap_alloc _ _ _ (by simp)).trans this
    · have := knew ((w.alloc (.cells #[.slice ao no co, .int .u32 t, .int .i64 x, .slice an n cn, .slice au nu cu, .slice ax nx cx, .slice ar nr cr] 53)).alloc (.cells #[.slice none 0 0, .int .u32 0, .int .i64 0, .slice none 0 0, .slice none 0 0, .slice none 0 0, .slice none 0 0] 53)) (.cells #[.int .i64 x, .slice an n cn, .slice au nu cu, .slice ax nx cx, .slice ar nr cr] 31)
      rw [World.size_alloc, World.size_alloc] at this
      exact this
  have HB0 : Hid (Below w.heap.size w W3) := by rw [← hW3]; exact Lib.hid ((((Below.refl _ w).alloc (Nat.le_refl _) _).alloc (by simp) _).alloc (by simp; omega) _)
  have HW3 := Lib.hid hW3
  clear hW3
  go_enter Try.func28, Try.ntmps28
  go_wp2
  rw [HW3.out]
  go_loopw [4, 12] (fun v4 vi wr => ∃ (k : Nat) (ga : Option Addr) (gc : Nat), v4 = .slice ga k gc ∧ vi = .int .i64 k ∧ k ≤ n ∧ Hid (OwnNms wr w.heap.size (.slice ga k gc) (r.data.names.take k)) ∧ Hid (FrB w (.slice ao no co) t x (.slice an n cn) (.slice au nu cu) (.slice ax nx cx) (.slice ar nr cr) (.slice an n cn) (.slice au nu cu) (.slice ax nx cx) (.slice ar nr cr) wr) ∧ Hid (Below w.heap.size w wr)) (fun _ vi _ => n - (intOf vi).toNat)
  case atStart => exact ⟨0, none, 0, rfl, rfl, Nat.zero_le _, Lib.hid (OwnNms.nil _ _), HF0, HB0⟩
  case round =>
    obtain ⟨k, ga, gc, rfl, rfl, hk, HO, HF, HB⟩ := hrel
    by_cases hlt : k < n
    · have hltz : (k : Int) < (n : Int) := by omega
      have hk1 : k < vs.length := by have := HN.out; omega
      have hk2 : k < r.data.names.length := by have := HSL.out; omega
      obtain ⟨b, off, rfl, hb, hcell⟩ := HCL.out wr HB.out k hk1
      have hnm := HS2.out k hk1 hk2
      have hnmr := hnm.below (W' := wr) HB.out
      have hok : NmOK r.data.names[k] := HK.out.2.2.2.2.1 _ (List.getElem_mem hk2)
      obtain ⟨av, cv, ev, -⟩ := nmAt_sl.1 hnm
      rw [ev] at hcell hnmr
      obtain ⟨m, hm⟩ : ∃ m, (List.map strV r.data.names[k]).length = m := ⟨_, rfl⟩
      rw [hm] at hcell hnmr
      have hcl := fun W (hb : Below wr.heap.size wr W) => clone_Name (.slice av m cv) r.data.names[k] W (hnmr.below hb).1 (hnmr.below hb).2 (by have := hok.1; omega)
      have hc0 := hcl wr (Below.refl _ _)
      have HK2 := Lib.hid hk2
      have HTK := Lib.hid (show r.data.names.take (k + 1) = r.data.names.take k ++ [r.data.names[k]] from List.take_succ_eq_append_getElem hk2)
      generalize r.data.names[k] = nm at hc0 HTK
      clear hcl hnm hnmr hok ev hm hk1 hk2
      go_wp2_with fail
      refine hc0.mono ?_
      rintro e w2 ⟨v', rfl, hown, hb2⟩
      have HF2 := Lib.hid (HF.out.below hb2)
      have HB2 := Lib.hid (HB.out.trans (hb2.mono HB.out.size))
      obtain ⟨a2, c2, rfl⟩ := hown.shape
      obtain ⟨m2, hm2⟩ : ∃ m, nm.length = m := ⟨_, rfl⟩
      obtain ⟨vs', hv1, hv2, hv3⟩ := HO.out.below hb2
      have hvk : vs'.length = k := by rw [hv2, List.length_take]; have := HK2.out; omega
      have hown' : OwnG 9 strV w2 w.heap.size (slEnc (a2, m2, c2)) nm := by rw [← hm2]; exact hown.weaken HB.out.size
      have HV := Lib.hid (And.intro hv2 hv3)
      have HOWN := Lib.hid hown'
      have HC := Lib.hid (show [Value.slice a2 m2 c2] = [((a2, m2, c2) : SlV)].map slEnc from rfl)
      have hz2 := HB2.out.size
      have HVK := Lib.hid hvk
      rw [hm2]
      clear hv2 hv3 hown hown' hm2 hb2 hc0 hcell hvk
      go_wp2_with (at_builtin; refine wpl_append_g w2 rfl (.tmp 16) (.tmp 19) elemNames rfl slEnc_one w.heap.size (.slice ga k gc) vs' rfl hv1 [.slice a2 m2 c2] [((a2, m2, c2) : SlV)] HC.out 1 1 rfl rfl hz2 (by have := HVK.out; unfold maxLen; simp; omega) (by have := HVK.out; simp; omega) ?_; intro v3 w3 hown3 hg3)
      have HO3 : Hid (OwnNms w3 w.heap.size v3 (r.data.names.take (k + 1))) := by
        rw [HTK.out]
        exact Lib.hid (OwnNms.snoc hv1 HV.out.1 HV.out.2 HOWN.out hown3 hg3)
      have HF3 := Lib.hid (HF2.out.grown hv1 (by decide) (by decide) hg3)
      have HB3 := Lib.hid (HB2.out.grown hg3 hz2 hv1.base_le)
      obtain ⟨a3, c3, rfl⟩ := hown3.shape
      have hl3 : (vs' ++ [((a2, m2, c2) : SlV)]).length = k + 1 := by rw [List.length_append, HVK.out]; rfl
      rw [hl3] at HO3
      clear hown3 hg3 hv1
      go_roundw
      case measure => simp [intOf]; omega
      case rel => exact ⟨k + 1, a3, c3, by rw [hl3], by go_num, by omega, HO3, HF3, HB3⟩
    · obtain rfl : k = n := by omega
      have HO1 : Hid (OwnNms wr w.heap.size (.slice ga k gc) r.data.names) := by
        have h := HO.out
        rw [List.take_of_length_le (by have := HN.out; have := HSL.out; omega)] at h
        exact Lib.hid h
      have HFR1 : Hid (FrR w r (.slice ga k gc) (wr.setCell ⟨w.heap.size + 1 + 1, 1, none⟩ (.slice ga k gc))) := Lib.hid (FrR.put ⟨HO1.out, HB.out⟩ HF.out.d 1 _)
      have HF1 : Hid (FrB w (.slice ao no co) t x (.slice an k cn) (.slice au nu cu) (.slice ax nx cx) (.slice ar nr cr) (.slice ga k gc) (.slice au nu cu) (.slice ax nx cx) (.slice ar nr cr) (wr.setCell ⟨w.heap.size + 1 + 1, 1, none⟩ (.slice ga k gc))) := Lib.hid (HF.out.put 1 _ rfl)
      have d1 := kcell HF.out.d 1 _ rfl
      have f1 := kfrozen HF.out.d 1
      have d2 := kcell HF.out.d 2 _ rfl
      have d2' := kcell HF1.out.d 2 _ rfl
      have hcu := clone_u32 (.slice au nu cu) ((r.data.nums.map u32V).map fun x => [x]) (wr.setCell ⟨w.heap.size + 1 + 1, 1, none⟩ (.slice ga k gc)) (slK_one (HU.out.below HFR1.out.below)) (by simp) (by simp [u32V]; try (intros; rfl)) (by simp; have := HK.out.2.2.2.2.2.1; omega)
      clear HO HO1 HB HCL HS2
      go_wp2_with fail
      refine hcu.mono ?_
      rintro e w4 ⟨v4, rfl, ho4, hb4⟩
      obtain ⟨m4, hm4⟩ : ∃ m, r.data.nums.length = m := ⟨_, rfl⟩
      have ho4' : OwnG 37 u32V w4 w.heap.size v4 r.data.nums := by
        rw [List.map_map] at ho4
        exact (ownG_of_C ho4).weaken HFR1.out.below.size
      obtain ⟨a4, c4, rfl⟩ := ho4'.shape
      have hf4 := HF1.out.below hb4
      have HFRA := Lib.hid ((HFR1.out.next hb4).put hf4.d 2 (.slice a4 r.data.nums.length c4))
      have HFA := Lib.hid (hf4.put 2 (.slice a4 r.data.nums.length c4) rfl)
      have HNA := Lib.hid (ho4'.keptB hf4.d (by decide) 2 (.slice a4 r.data.nums.length c4))
      have d3 := kcell hf4.d 2 _ rfl
      have f3 := kfrozen hf4.d 2
      have d4 := kcell HFA.out.d 3 _ rfl
      have hcx := clone_str (.slice ax nx cx) ((r.data.texts.map strV).map fun x => [x]) _ (slK_one (nmAt_sl.1 (HTX.out.below HFRA.out.below))) (by simp) (by simp [strV]; try (intros; rfl)) (by simp; have := HK.out.2.2.2.2.2.2.2.1.1; omega)
      rw [hm4] at HFRA HFA HNA hcx d4 ⊢
      clear ho4 ho4' hf4 hb4 d1 f1 d2 d2' HFR1 HF1 HF hcu
      go_wp2_with fail
      refine hcx.mono ?_
      rintro e w5 ⟨v5, rfl, ho5, hb5⟩
      obtain ⟨m5, hm5⟩ : ∃ m, r.data.texts.length = m := ⟨_, rfl⟩
      have ho5' : OwnG 9 strV w5 w.heap.size v5 r.data.texts := by
        rw [List.map_map] at ho5
        exact (ownG_of_C ho5).weaken HFRA.out.below.size
      obtain ⟨a5, c5, rfl⟩ := ho5'.shape
      have hf5 := HFA.out.below hb5
      have HFRB := Lib.hid ((HFRA.out.next hb5).put hf5.d 3 (.slice a5 r.data.texts.length c5))
      have HFB := Lib.hid (hf5.put 3 (.slice a5 r.data.texts.length c5) rfl)
      have HNB := Lib.hid ((HNA.out.below hb5).keptB hf5.d (by decide) 3 (.slice a5 r.data.texts.length c5))
      have HXB := Lib.hid (ho5'.keptB hf5.d (by decide) 3 (.slice a5 r.data.texts.length c5))
      have d5 := kcell hf5.d 3 _ rfl
      have f5 := kfrozen hf5.d 3
      have d6 := kcell HFB.out.d 4 _ rfl
      have hcr := clone_byte (.slice ar nr cr) ((r.data.raw.map bv).map fun x => [x]) _ (slK_one (HRW.out.below HFRB.out.below)) (by simp) (by simp [bv]; try (intros; rfl)) (by simp; have := HK.out.2.2.2.2.2.2.2.2; omega)
      rw [hm5] at HFRB HFB HNB HXB hcr d6 ⊢
      clear ho5 ho5' hf5 hb5 d3 f3 d4 HFRA HFA HNA hcx
      go_wp2_with fail
      refine hcr.mono ?_
      rintro e w6 ⟨v6, rfl, ho6, hb6⟩
      obtain ⟨m6, hm6⟩ : ∃ m, r.data.raw.length = m := ⟨_, rfl⟩
      have ho6' : OwnG 5 bv w6 w.heap.size v6 r.data.raw := by
        rw [List.map_map] at ho6
        exact (ownG_of_C ho6).weaken HFRB.out.below.size
      obtain ⟨a6, c6, rfl⟩ := ho6'.shape
      have hf6 := HFB.out.below hb6
      have HFRC := Lib.hid ((HFRB.out.next hb6).put hf6.d 4 (.slice a6 r.data.raw.length c6))
      have HFC := Lib.hid (hf6.put 4 (.slice a6 r.data.raw.length c6) rfl)
      have HNC := Lib.hid ((HNB.out.below hb6).keptB hf6.d (by decide) 4 (.slice a6 r.data.raw.length c6))
      have HXC := Lib.hid ((HXB.out.below hb6).keptB hf6.d (by decide) 4 (.slice a6 r.data.raw.length c6))
      have HRC := Lib.hid (ho6'.keptB hf6.d (by decide) 4 (.slice a6 r.data.raw.length c6))
      have d7 := kcell hf6.d 4 _ rfl
      have f7 := kfrozen hf6.d 4
      rw [hm6] at HFRC HFC HNC HXC HRC ⊢
      clear ho6 ho6' hf6 hb6 d5 f5 d6 HFRB HFB HNB HXB hcr
      go_wp2_with fail
      have hSF0 : SF w r (.slice ao no co) t x (.slice an k cn) (.slice au nu cu) (.slice ax nx cx) (.slice ar nr cr) (.slice ga k gc) (.slice a4 m4 c4) (.slice a5 m5 c5) (.slice a6 m6 c6) (w6.setCell ⟨w.heap.size + 1 + 1, 4, none⟩ (.slice a6 m6 c6)) :=
        ⟨HFC.out.p, HFC.out.d, ⟨_, HFC.out.q, rfl⟩, ⟨HFRC.out.names, HNC.out, HXC.out, HRC.out⟩, HFRC.out.below⟩
      generalize w6.setCell ⟨w.heap.size + 1 + 1, 4, none⟩ (.slice a6 m6 c6) = wB at hSF0 ⊢
      have hS0 := hSF0.ss
      have HCN := Lib.hid (fun (W : World) (h : SS w r (.slice ao no co) t x (.slice an k cn) (.slice au nu cu) (.slice ax nx cx) (.slice ar nr cr) (.slice ga k gc) (.slice a4 m4 c4) (.slice a5 m5 c5) (.slice a6 m6 c6) W) => clone_Name (.slice ao no co) r.owner W (HA.out.below h.sf.below).1 (HA.out.below h.sf.below).2 (by have := HK.out.1.1; omega))
      have KS := Lib.hid (fun (W W' : World) (h : SS w r (.slice ao no co) t x (.slice an k cn) (.slice au nu cu) (.slice ax nx cx) (.slice ar nr cr) (.slice ga k gc) (.slice a4 m4 c4) (.slice a5 m5 c5) (.slice a6 m6 c6) W) (hb : Below W.heap.size W W') => (h.sf.keep hb).ss)
      have KP := Lib.hid (fun (W : World) (y0 y1 y2 y3 y4 y5 y6 : Value) (h : SS w r (.slice ao no co) t x (.slice an k cn) (.slice au nu cu) (.slice ax nx cx) (.slice ar nr cr) (.slice ga k gc) (.slice a4 m4 c4) (.slice a5 m5 c5) (.slice a6 m6 c6) W) => (((((((h.sf.put 0 y0).put 1 y1).put 2 y2).put 3 y3).put 4 y4).put 5 y5).put 6 y6).ss)
      have KD := Lib.hid (fun (W : World) (h : SS w r (.slice ao no co) t x (.slice an k cn) (.slice au nu cu) (.slice ax nx cx) (.slice ar nr cr) (.slice ga k gc) (.slice a4 m4 c4) (.slice a5 m5 c5) (.slice a6 m6 c6) W) => KS.out W W.drew h (below_drewQ (Below.refl _ _) 1))
      unfold SS at hS0 HCN KS KP KD
      clear hSF0 d7 f7 HFRC HFC HNC HXC HRC HU HTX HRW HNMS
      go_region_held3 (fun W => W.cell? ⟨w.heap.size, 0, none⟩ = some (.slice ao no co) ∧ W.cell? ⟨w.heap.size, 1, none⟩ = some (.int .u32 t) ∧ W.cell? ⟨w.heap.size + 1 + 1, 0, none⟩ = some (.int .i64 x) ∧ W.cell? ⟨w.heap.size + 1 + 1, 1, none⟩ = some (.slice ga k gc) ∧ W.cell? ⟨w.heap.size + 1 + 1, 2, none⟩ = some (.slice a4 m4 c4) ∧ W.cell? ⟨w.heap.size + 1 + 1, 3, none⟩ = some (.slice a5 m5 c5) ∧ W.cell? ⟨w.heap.size + 1 + 1, 4, none⟩ = some (.slice a6 m6 c6) ∧ SF w r (.slice ao no co) t x (.slice an k cn) (.slice au nu cu) (.slice ax nx cx) (.slice ar nr cr) (.slice ga k gc) (.slice a4 m4 c4) (.slice a5 m5 c5) (.slice a6 m6 c6) W)
        (first | with_reducible assumption | (with_reducible exact KD.out _ (by with_reducible assumption)) | (with_reducible exact KP.out _ _ _ _ _ _ _ _ (by with_reducible assumption)))
        (first | ((with_reducible refine (HCN.out _ (by with_reducible assumption)).mono ?_); rintro e w7 ⟨v7, rfl, ho7, hb7⟩; obtain ⟨a7, c7, rfl⟩ := ho7.shape; have hS2 := KS.out _ _ (by assumption) hb7; have hq7 := hS2.2.2.2.2.2.2.2.q; obtain ⟨cs7, hq7, hs7⟩ := hq7; obtain ⟨q0, q1, q2, q3, q4, q5, q6, rfl⟩ := arr7 hs7; have fz0 := kfrozen hq7 0; have cl0 := kcell hq7 0 _ rfl; have fz1 := kfrozen hq7 1; have cl1 := kcell hq7 1 _ rfl; have fz2 := kfrozen hq7 2; have cl2 := kcell hq7 2 _ rfl; have fz3 := kfrozen hq7 3; have cl3 := kcell hq7 3 _ rfl; have fz4 := kfrozen hq7 4; have cl4 := kcell hq7 4 _ rfl; have fz5 := kfrozen hq7 5; have cl5 := kcell hq7 5 _ rfl; have fz6 := kfrozen hq7 6; have cl6 := kcell hq7 6 _ rfl))
      go_wp2_with fail
      have HS7 := hS2.2.2.2.2.2.2.2
      have hsz : w.heap.size ≤ wB.heap.size := hS0.2.2.2.2.2.2.2.below.size
      have hown7 : OwnG 9 strV w7 w.heap.size (.slice a7 r.owner.length c7) r.owner := ho7.weaken hsz
      clear ho7
      have hb_0 := block_set hq7 0 (.slice a7 r.owner.length c7)
      have ho_0 := hown7.keptB hq7 (by decide) 0 (.slice a7 r.owner.length c7)
      have hb_1 := block_set hb_0 1 (.int .u32 t)
      have ho_1 := ho_0.keptB hb_0 (by decide) 1 (.int .u32 t)
      have hb_2 := block_set hb_1 2 (.int .i64 x)
      have ho_2 := ho_1.keptB hb_1 (by decide) 2 (.int .i64 x)
      have hb_3 := block_set hb_2 3 (.slice ga k gc)
      have ho_3 := ho_2.keptB hb_2 (by decide) 3 (.slice ga k gc)
      have hb_4 := block_set hb_3 4 (.slice a4 m4 c4)
      have ho_4 := ho_3.keptB hb_3 (by decide) 4 (.slice a4 m4 c4)
      have hb_5 := block_set hb_4 5 (.slice a5 m5 c5)
      have ho_5 := ho_4.keptB hb_4 (by decide) 5 (.slice a5 m5 c5)
      have hb_6 := block_set hb_5 6 (.slice a6 m6 c6)
      have ho_6 := ho_5.keptB hb_5 (by decide) 6 (.slice a6 m6 c6)
      have hsN := (((((((HS7.put 0 (.slice a7 r.owner.length c7)).put 1 (.int .u32 t)).put 2 (.int .i64 x)).put 3 (.slice ga k gc)).put 4 (.slice a4 m4 c4)).put 5 (.slice a5 m5 c5)).put 6 (.slice a6 m6 c6))
      have hqN : (_ : World).heap[w.heap.size + 1]? = some (.cells #[.slice a7 r.owner.length c7, .int .u32 t, .int .i64 x, .slice ga k gc, .slice a4 m4 c4, .slice a5 m5 c5, .slice a6 m6 c6] 53) := hb_6
      refine bodyPost_ret (results_rec rfl _ _ rfl hqN) rfl ?_
      exact ⟨[.slice a7 r.owner.length c7, .int .u32 t, .int .i64 x, .slice ga k gc, .slice a4 m4 c4, .slice a5 m5 c5, .slice a6 m6 c6], rfl, ⟨_, _, _, _, _, by rw [HT.out, HX.out], ho_6, hsN.row⟩, hsN.below⟩
end Go.Proofs.Ytfcdajldpnomfaa

/-
  The opening of arguments of types rdata.Data, rec.Rec, []rec.Rec.
-/
namespace Go.Proofs.Ytfcdajldpnomfaa
set_option maxRecDepth 20000
open Go Go.ChangeShapes Go.WideShapes Go.ChangeAt Go.RowKit Go.Shelf
set_option maxRecDepth 20000
theorem sl_row {W : World} {x : Addr} {l c : Nat} (f : Nat → Value) (hl : l ≤ c) (hcell : ∀ i, i < c → W.cell? (x.add i) = some (f i)) : SlAt W (.slice (some x) l c) ((List.range l).map f) := by
  refine ⟨some x, c, by simp, by simpa using hl, by simp, ?_⟩
  by_cases h0 : l = 0
  · subst h0; left; simp
  · right
    obtain ⟨b, off, spot⟩ := x
    have hspot : spot = none := by simpa [Addr.add] using World.cell?_spot (hcell 0 (by omega))
    subst hspot
    have hb : b < W.heap.size := by
      have h := hcell 0 (by omega)
      exact World.block_lt_of_cell? W _ (by simpa [Addr.add] using h : W.cell? ⟨b, off, none⟩ = some (f 0))
    refine ⟨b, off, rfl, hb, fun j hj => ?_⟩
    rw [List.length_map, List.length_range] at hj
    rw [← Go.WideShapes.add_plain, hcell j (by omega)]
    simp
theorem ints_row {W : World} {k : IntKind} {x : Addr} {l c : Nat} {zs : List Int} (hl : l ≤ c) (hz : zs.length = c) (hcell : ∀ i, i < zs.length → W.cell? (x.add i) = some (.int k (zs.getD i 0))) : SlAt W (.slice (some x) l c) ((zs.take l).map fun z => .int k z) := by
  have h := sl_row (fun i => Value.int k (zs.getD i 0)) hl (fun i hi => hcell i (by omega))
  have e : (List.range l).map (fun i => Value.int k (zs.getD i 0)) = (zs.take l).map fun z => Value.int k z := by
    apply List.ext_getElem
    · simp; omega
    · intro i h1 h2
      simp only [List.length_map, List.length_range] at h1
      have : i < zs.length := by omega
      simp [List.getD, this]
  rwa [e] at h
variable {H : Type} {enc : TypeId × Value → H} {W : World}
theorem cells3 : Try.prog.cellsOf 3 = 1 ∧ Try.prog.cellsOf 26 = 1 ∧ Try.prog.cellsOf 27 = 1 ∧ Try.prog.cellsOf 28 = 1 ∧ Try.prog.cellsOf 29 = 1 ∧ Try.prog.cellsOf 31 = 5 ∧ Try.prog.cellsOf 38 = 1 ∧ Try.prog.cellsOf 9 = 1 ∧ Try.prog.cellsOf 37 = 1 ∧ Try.prog.cellsOf 5 = 1 :=
  ⟨by kernel_rfl, by kernel_rfl, by kernel_rfl, by kernel_rfl, by kernel_rfl, by kernel_rfl, by kernel_rfl, by kernel_rfl, by kernel_rfl, by kernel_rfl⟩
theorem open_nm {t : TypeId} (ht : Try.prog.underlying t = some (.slice 9)) {fuel : Nat} {v : Value} {x : DataW H × List MemPlace} (hf : DataW.trod enc Try.prog W 0 (fun _ => true) true fuel t [v] = some x) : ∃ zs, NmArg W v zs := by
  rcases Go.ChangeShapes.open_strings ht Try.underlying9 (by kernel_rfl) hf with ⟨hcs, _⟩ | ⟨x, l, c, zs, hcs, _, hl, hm, hz, _, hcell, hwz⟩
  · simp at hcs
    subst hcs
    exact ⟨[], nmArg_nil W⟩
  · simp at hcs
    subst hcs
    exact ⟨_, nmArg_row hl hm (by simpa using hz) hcell hwz⟩
theorem open_nms {fuel : Nat} {v : Value} {x : DataW H × List MemPlace} (hf : DataW.trod enc Try.prog W 0 (fun _ => true) true fuel 26 [v] = some x) : ∃ ns : List Nm, NmsAt W v ns ∧ ∀ n ∈ ns, n.length ≤ maxLen ∧ ∀ y ∈ n, y.length ≤ maxLen := by
  rcases Go.Deep.open_slice1 Try.underlying26 (by kernel_rfl) hf with ⟨hcs, _⟩ | ⟨a, len, cap, m, n, V, D, Pl, hcs, _, hl, hm, hmm, _, hV⟩
  · simp at hcs
    subst hcs
    exact ⟨[], NmsAt.nil W, by simp⟩
  · simp at hcs
    subst hcs
    simp only [if_true] at hmm
    subst hmm
    obtain ⟨F, hF⟩ := Go.Deep.choose_lt (α := Nm) (p := fun i z => NmArg W (V i) z) (fun i hi => open_nm Try.underlying38 (hV i hi).2)
    refine ⟨(List.range len).map F, ⟨(List.range len).map V, sl_row V hl (fun i hi => (hV i hi).1), by simp, fun j hj => ?_⟩, ?_⟩
    · simp only [List.length_map, List.length_range] at hj
      simpa using (hF j (by omega)).1
    · intro n hn
      obtain ⟨i, hi, rfl⟩ := List.mem_map.1 hn
      exact (hF i (by have := List.mem_range.1 hi; omega)).2
theorem wf_u32 {n : Int} (h : (Lit.int .u32 n).wf = true) : 0 ≤ n ∧ n < 2 ^ 32 := by
  simp [Lit.wf] at h
  have e1 : IntKind.u32.min = 0 := by decide
  have e2 : IntKind.u32.max = 4294967295 := by decide
  omega
theorem wf_u8 {n : Int} (h : (Lit.int .u8 n).wf = true) : 0 ≤ n ∧ n < 256 := by
  simp [Lit.wf] at h
  have e1 : IntKind.u8.min = 0 := by decide
  have e2 : IntKind.u8.max = 255 := by decide
  omega
theorem wf_i64 {n : Int} (h : (Lit.int .i64 n).wf = true) : -(2 ^ 63) ≤ n ∧ n < 2 ^ 63 := by
  simp [Lit.wf] at h
  have e1 : IntKind.i64.min = -9223372036854775808 := by decide
  have e2 : IntKind.i64.max = 9223372036854775807 := by decide
  omega
theorem open_u32s {fuel : Nat} {v : Value} {x : DataW H × List MemPlace} (hf : DataW.trod enc Try.prog W 0 (fun _ => true) true fuel 27 [v] = some x) : ∃ ns : List Nat, SlAt W v (ns.map u32V) ∧ ∀ n ∈ ns, n < 2 ^ 32 := by
  rcases open_ints Try.underlying27 Try.underlying37 (by kernel_rfl) hf with ⟨hcs, _⟩ | ⟨a, l, c, zs, hcs, _, hl, hm, hz, _, hcell, hw⟩
  · simp at hcs
    subst hcs
    exact ⟨[], SlAt.nil W, by simp⟩
  · simp at hcs
    subst hcs
    refine ⟨(zs.take l).map Int.toNat, ?_, ?_⟩
    · have h := ints_row hl (by simpa using hz) hcell
      have e : ((zs.take l).map Int.toNat).map u32V = (zs.take l).map fun z => Value.int .u32 z := by
        rw [List.map_map]
        apply List.map_congr_left
        intro z hz
        have := wf_u32 (hw z (List.mem_of_mem_take hz))
        show Value.int .u32 ((z.toNat : Nat) : Int) = _
        rw [Int.toNat_of_nonneg this.1]
      rw [e]; exact h
    · intro n hn
      obtain ⟨z, hz, rfl⟩ := List.mem_map.1 hn
      have := wf_u32 (hw z (List.mem_of_mem_take hz))
      omega
theorem open_u8s {fuel : Nat} {v : Value} {x : DataW H × List MemPlace} (hf : DataW.trod enc Try.prog W 0 (fun _ => true) true fuel 29 [v] = some x) : ∃ ns : List UInt8, SlAt W v (ns.map bv) := by
  rcases open_ints Try.underlying29 Try.underlying5 (by kernel_rfl) hf with ⟨hcs, _⟩ | ⟨a, l, c, zs, hcs, _, hl, hm, hz, _, hcell, hw⟩
  · simp at hcs
    subst hcs
    exact ⟨[], SlAt.nil W⟩
  · simp at hcs
    subst hcs
    refine ⟨(zs.take l).map fun z => UInt8.ofNat z.toNat, ?_⟩
    have h := ints_row hl (by simpa using hz) hcell
    have e : ((zs.take l).map fun z => UInt8.ofNat z.toNat).map bv = (zs.take l).map fun z => Value.int .u8 z := by
      rw [List.map_map]
      apply List.map_congr_left
      intro z hz
      have := wf_u8 (hw z (List.mem_of_mem_take hz))
      show Value.int .u8 ((UInt8.ofNat z.toNat).toNat : Int) = _
      congr 1
      simp
      omega
    rw [e]; exact h
theorem open_data {fuel : Nat} {cs : List Value} {x : DataW H × List MemPlace} (hf : DataW.trod enc Try.prog W 0 (fun _ => true) true fuel 31 cs = some x) : ∃ d, DatArg W (.agg cs.toArray) d := by
  obtain ⟨k1, k2, k3, k4, k5, k6, _⟩ := cells3
  obtain ⟨xs, n, _, _, hl, hx, hfd⟩ := DataW.trod_struct Try.underlying31 hf
  rw [k6] at hl
  match cs, hl with
  | [c0, c1, c2, c3, c4], _ =>
  match xs, hx with
  | [y0, y1, y2, y3, y4], _ =>
  have h0 : DataW.trod enc Try.prog W 0 (fun _ => true) true n 3 (List.take (Try.prog.cellsOf 3) (List.drop 0 [c0, c1, c2, c3, c4])) = some y0 := hfd 0 _ rfl
  rw [k1] at h0
  replace h0 : DataW.trod enc Try.prog W 0 (fun _ => true) true n 3 [c0] = some y0 := h0
  have h1 : DataW.trod enc Try.prog W 0 (fun _ => true) true n 26 (List.take (Try.prog.cellsOf 26) (List.drop 1 [c0, c1, c2, c3, c4])) = some y1 := hfd 1 _ rfl
  rw [k2] at h1
  replace h1 : DataW.trod enc Try.prog W 0 (fun _ => true) true n 26 [c1] = some y1 := h1
  have h2 : DataW.trod enc Try.prog W 0 (fun _ => true) true n 27 (List.take (Try.prog.cellsOf 27) (List.drop 2 [c0, c1, c2, c3, c4])) = some y2 := hfd 2 _ rfl
  rw [k3] at h2
  replace h2 : DataW.trod enc Try.prog W 0 (fun _ => true) true n 27 [c2] = some y2 := h2
  have h3 : DataW.trod enc Try.prog W 0 (fun _ => true) true n 28 (List.take (Try.prog.cellsOf 28) (List.drop 3 [c0, c1, c2, c3, c4])) = some y3 := hfd 3 _ rfl
  rw [k4] at h3
  replace h3 : DataW.trod enc Try.prog W 0 (fun _ => true) true n 28 [c3] = some y3 := h3
  have h4 : DataW.trod enc Try.prog W 0 (fun _ => true) true n 29 (List.take (Try.prog.cellsOf 29) (List.drop 4 [c0, c1, c2, c3, c4])) = some y4 := hfd 4 _ rfl
  rw [k5] at h4
  replace h4 : DataW.trod enc Try.prog W 0 (fun _ => true) true n 29 [c4] = some y4 := h4
  obtain ⟨ty, e0, _, w0⟩ := DataW.trod_int Try.underlying3 h0
  obtain ⟨ns, n1, n2⟩ := open_nms h1
  obtain ⟨us, u1, u2⟩ := open_u32s h2
  obtain ⟨ts, t1⟩ := open_nm Try.underlying28 h3
  obtain ⟨rs, r1⟩ := open_u8s h4
  simp at e0
  subst e0
  exact ⟨⟨ty, ns, us, ts, rs⟩, ⟨c1, c2, c3, c4, rfl, n1, u1, t1.1, r1⟩, wf_i64 w0, n2, u2, t1.2.2⟩
/-- A law's row from its walk, over laid variables, the world's shape handed on. -/
theorem returnsInHanded_and_shaped {a : Assume} {C : Checked} {os : Os} {f : FuncId} {fn : Func} {s : ChangeSpec} {conds : List PathCond} {apart fresh handsOn again : Bool} {X : World → Array Value → Prop}
    (hX : ∀ (w w' : World) (args : Array Value), w.heap = w'.heap → X w args → X w' args)
    (own : ownKnob C.prog.godebug = none) (started : os.Started) (noInit : C.prog.inits.idxOf? f = none) (hfn : C.prog.funcs[f]? = some fn)
    (witness : ∃ (w : World) (tape : Tape) (i : Input), w.os = os ∧ (w.forCall tape i).Shaped C.prog ∧ i.vars = [] ∧ Input.okWide C.prog (w.forCall tape i) .any w.heap.size f i ∧
      ((s.pre enc C.prog fn conds apart (w.forCall tape i).memory i.args ∧ X (w.forCall tape i).memory i.args) ∧ sizedMet enc C.prog fn (OpenSpec.ofChange s) apart (w.forCall tape i).memory i.args) ∧ a.holds C.prog (lone (Frame.enter C.prog f i.args .normal) [] (w.forCall tape i)))
    (contract : ∀ (W : World) (base : Nat) (args : Array Value) (ds gs : List (DataW H)) (before : List MemPlace),
      (∀ (j : Nat) t v, fn.params[j]? = some t → args[j]? = some v → Value.okWide C.prog W .any base t v) →
      DataW.Whole enc C.prog fn.params.toList s.vars apart W args.toList ds gs before →
      conds.all (PathCond.test C.prog ⟨fn.params.toList, ds, s.plain.varTypes C.prog, gs⟩) = true →
      (DataW.weightsEach C.prog (fn.params.toList ++ s.plain.varTypes C.prog) (ds ++ gs)).all (· ≤ reachBytes) = true → X W args →
      W.ShapedOpen C.prog →
      a.holds C.prog (lone (Frame.enter C.prog f args .normal) [] W) →
      Calls C.prog f args W fun e W' => ∃ v, e = .returned v ∧ s.post enc C.prog fn apart fresh handsOn again W args v W') :
    ReturnsInHanded a C os f .any (fun w args => (s.pre enc C.prog fn conds apart w args ∧ X w args) ∧ sizedMet enc C.prog fn (OpenSpec.ofChange s) apart w args) (s.post enc C.prog fn apart fresh handsOn again) := by
  refine returnsInHanded_of_calls own started noInit witness ?_
  intro w tape i _ hsh _ hok hpre hholds
  obtain ⟨_, _, _, fn', hfn', _, _, _, _, hval⟩ := hok
  obtain rfl : fn' = fn := Option.some.inj (hfn'.symm.trans hfn)
  obtain ⟨⟨⟨ds, gs, before, hw, hc⟩, hx⟩, hz⟩ := hpre
  have hw' := DataW.Whole.of_heap (w' := w.forCall tape i) (by rfl) hw
  refine (contract (w.forCall tape i) w.heap.size i.args ds gs before hval hw' hc (hz.weights hw) (hX _ _ _ (by rfl) hx) hsh hholds).mono fun e W' ⟨v, he, hp⟩ => ?_
  subst he
  exact ChangeSpec.post_blind hp
theorem cellsRec : Try.prog.cellsOf 53 = 7 := by kernel_rfl
theorem open_rec {fuel : Nat} {cs : List Value} {x : DataW H × List MemPlace} (hf : DataW.trod enc Try.prog W 0 (fun _ => true) true fuel 53 cs = some x) : ∃ r, RcArg W cs r := by
  obtain ⟨k1, k2, k3, k4, k5, k6, k7, k8, k9, _⟩ := cells3
  obtain ⟨xs, n, _, _, hl, hx, hfd⟩ := DataW.trod_struct Try.underlying53 hf
  rw [cellsRec] at hl
  match cs, hl with
  | [c0, c1, c2, c3, c4, c5, c6], _ =>
  match xs, hx with
  | [y0, y1, y2], _ =>
  have h0 : DataW.trod enc Try.prog W 0 (fun _ => true) true n 38 (List.take (Try.prog.cellsOf 38) (List.drop 0 [c0, c1, c2, c3, c4, c5, c6])) = some y0 := hfd 0 _ rfl
  rw [k7] at h0
  replace h0 : DataW.trod enc Try.prog W 0 (fun _ => true) true n 38 [c0] = some y0 := h0
  have h1 : DataW.trod enc Try.prog W 0 (fun _ => true) true n 37 (List.take (Try.prog.cellsOf 37) (List.drop 1 [c0, c1, c2, c3, c4, c5, c6])) = some y1 := hfd 1 _ rfl
  rw [k9] at h1
  replace h1 : DataW.trod enc Try.prog W 0 (fun _ => true) true n 37 [c1] = some y1 := h1
  have h2 : DataW.trod enc Try.prog W 0 (fun _ => true) true n 31 (List.take (Try.prog.cellsOf 31) (List.drop 2 [c0, c1, c2, c3, c4, c5, c6])) = some y2 := hfd 2 _ rfl
  rw [k6] at h2
  replace h2 : DataW.trod enc Try.prog W 0 (fun _ => true) true n 31 [c2, c3, c4, c5, c6] = some y2 := h2
  obtain ⟨o, o1⟩ := open_nm Try.underlying38 h0
  obtain ⟨t, e1, _, w1⟩ := DataW.trod_int Try.underlying37 h1
  obtain ⟨d, hd⟩ := open_data h2
  simp at e1
  subst e1
  have ht := wf_u32 w1
  obtain ⟨vn, vu, vt, vr, e, hh⟩ := hd.1
  have e' : [c2, c3, c4, c5, c6] = [Value.int .i64 d.ty, vn, vu, vt, vr] := by
    have : [c2, c3, c4, c5, c6].toArray = #[Value.int .i64 d.ty, vn, vu, vt, vr] := by injection e
    exact congrArg Array.toList this
  simp only [List.cons.injEq, and_true] at e'
  obtain ⟨rfl, rfl, rfl, rfl, rfl⟩ := e'
  refine ⟨⟨o, t.toNat, d⟩, _, _, _, _, _, ?_, o1, hd, by show t.toNat < 2 ^ 32; omega⟩
  show [_, Value.int .u32 t, _, _, _, _, _] = [_, Value.int .u32 ((t.toNat : Nat) : Int), _, _, _, _, _]
  rw [Int.toNat_of_nonneg ht.1]
theorem flatten_at (k : Nat) (k0 : 0 < k) : ∀ (l : List (List Value)), (∀ cs ∈ l, cs.length = k) → ∀ (t : Nat) (u : Value), l.flatten[t]? = some u → ∃ h : t / k < l.length, (l[t / k])[t % k]? = some u
  | [], _, t, u, h => by simp at h
  | x :: r, hk, t, u, h => by
    have hx := hk x (by simp)
    rw [List.flatten_cons] at h
    by_cases ht : t < k
    · rw [List.getElem?_append_left (by omega)] at h
      have e0 : t / k = 0 := Nat.div_eq_of_lt ht
      have e1 : t % k = t := Nat.mod_eq_of_lt ht
      refine ⟨by rw [e0]; simp, ?_⟩
      simp only [e0, e1, List.getElem_cons_zero]
      exact h
    · rw [List.getElem?_append_right (by omega), hx] at h
      obtain ⟨h1, h2⟩ := flatten_at k k0 r (fun cs hc => hk cs (by simp [hc])) (t - k) u h
      have e0 : t / k = (t - k) / k + 1 := by
        rw [Nat.div_eq_sub_div k0 (by omega)]
      have e1 : t % k = (t - k) % k := by
        rw [Nat.mod_eq_sub_mod (by omega)]
      refine ⟨by rw [e0]; simpa using h1, ?_⟩
      simp only [e0, e1, List.getElem_cons_succ]
      exact h2
instance inhRec : Inhabited (List Value × Rc) := ⟨([], Rc.none)⟩
theorem open_recs {fuel : Nat} {v : Value} {x : DataW H × List MemPlace} (hf : DataW.trod enc Try.prog W 0 (fun _ => true) true fuel 43 [v] = some x) :
    ∃ (css : List (List Value)) (l : List Rc), SlK W v css ∧ css.length = l.length ∧ ∀ i (h1 : i < css.length) (h2 : i < l.length), RcArg W css[i] l[i] := by
  rcases Go.Deep.open_slice Try.underlying43 hf with ⟨hcs, _⟩ | ⟨a, len, cap, m, n, D, Pl, hcs, _, hl, hm, hmm, _, hV⟩
  · simp at hcs
    subst hcs
    exact ⟨[], [], SlK.nil W, rfl, fun i h1 => absurd h1 (Nat.not_lt_zero _)⟩
  · simp at hcs
    subst hcs
    simp only [if_true] at hmm
    subst hmm
    rw [cellsRec] at hV
    obtain ⟨F, hF⟩ := Go.Deep.choose_lt (α := List Value × Rc) (p := fun i z => W.cells? 0 (a.add (i * 7)) 7 = some z.1 ∧ RcArg W z.1 z.2) (fun i hi => by
      obtain ⟨cs', h1, h2⟩ := hV i hi
      obtain ⟨r, hr⟩ := open_rec h2
      exact ⟨(cs', r), h1, hr⟩)
    have hlen : ∀ i, i < len → (F i).1.length = 7 := fun i hi => (World.cells?_some (hF i (by omega)).1).2.1
    refine ⟨(List.range len).map fun i => (F i).1, (List.range len).map fun i => (F i).2, ⟨some a, m, by simp, by simpa using hl, (fun e => by cases e), ?_⟩, by simp, fun i h1 h2 => ?_⟩
    · by_cases h0 : len = 0
      · subst h0; left; rfl
      · right
        obtain ⟨b, off, spot⟩ := a
        have hc0 := (World.cells?_some (hF 0 (by omega)).1).2.2 0 (by omega)
        rw [List.getElem?_eq_getElem (by rw [hlen 0 (by omega)]; omega)] at hc0
        have hspot : spot = none := by simpa [Addr.add] using World.cell?_spot hc0
        subst hspot
        have hb : b < W.heap.size := World.block_lt_of_cell? W _ (by simpa [Addr.add] using hc0 : W.cell? ⟨b, off, none⟩ = some _)
        refine ⟨b, off, rfl, hb, fun j u hj => ?_⟩
        obtain ⟨h1, h2⟩ := flatten_at 7 (by omega) _ (fun cs hc => by
          obtain ⟨i, hi, rfl⟩ := List.mem_map.1 hc
          exact hlen i (List.mem_range.1 hi)) j u hj
        have hi : j / 7 < len := by simpa using h1
        rw [List.getElem_map, List.getElem_range] at h2
        have hd : j % 7 < 7 := Nat.mod_lt _ (by omega)
        have hc := (World.cells?_some (hF (j / 7) (by omega)).1).2.2 (j % 7) hd
        rw [h2] at hc
        rw [Addr.add_lit, Addr.add_lit, show off + j / 7 * 7 + j % 7 = off + j by omega] at hc
        exact hc
    · simp only [List.length_map, List.length_range] at h1
      simpa using (hF i (by omega)).2
end Go.Proofs.Ytfcdajldpnomfaa

