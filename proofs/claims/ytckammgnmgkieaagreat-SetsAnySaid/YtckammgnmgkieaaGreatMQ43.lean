/-
  rec.fresh: a record anew, in memory of its own.
-/
import Derived.Test.YtckammgnmgkieaaGreatMQ21
import Derived.Test.YtckammgnmgkieaaGreatMQ09
import Derived.Test.YtckammgnmgkieaaGreatMQ22
import Derived.Deep.RegionHeld3
namespace Go.Proofs.YtckammgnmgkieaaGreat
set_option maxRecDepth 20000
open Go.RowKit Go.Shelf
set_option maxRecDepth 20000
set_option linter.unusedVariables false
set_option linter.unusedSimpArgs false

theorem ownG_of_C {α : Type} {T : TypeId} {enc : α → Value} {W : World} {base : Nat} {v : Value} {xs : List α} (h : OwnC 1 T W base v (xs.map fun x => [enc x])) : OwnG T enc W base v xs := by
  unfold OwnG
  have e : (xs.map fun x => [enc x]).flatMap (fun cs => cs) = xs.map enc := by
    have : ∀ xs : List α, (xs.map fun x => [enc x]).flatMap (fun cs => cs) = xs.map enc := fun xs => by
      induction xs with
      | nil => rfl
      | cons x r ih => rw [List.map_cons, List.flatMap_cons, ih]; rfl
    exact this xs
  unfold OwnC OwnK at h
  rw [e, List.length_map] at h
  exact h
theorem results_rec {fn : Func} {t : Tmp} (h : fn.results = #[.cell t 103]) (tmps : Array Value) (W : World) {a : Nat} {x0 x1 x2 x3 x4 x5 x6 : Value}
    (ht : tmps.getD t undef = .pointer (some ⟨a, 0, none⟩)) (hb : W.heap[a]? = some (.cells #[x0, x1, x2, x3, x4, x5, x6] 103)) : (results fn tmps).run Tryz.prog W = .ok (.agg #[x0, x1, x2, x3, x4, x5, x6]) W := by
  have ht' : tmps[t]?.getD undef = .pointer (some ⟨a, 0, none⟩) := by rw [← ht]; simp
  have hu : ∀ w, Sem.run Tryz.prog (underlying 103) w = .ok _ w := run_underlying Tryz.underlying103
  have y0 := kcell hb 0 _ rfl; have y1 := kcell hb 1 _ rfl; have y2 := kcell hb 2 _ rfl; have y3 := kcell hb 3 _ rfl; have y4 := kcell hb 4 _ rfl; have y5 := kcell hb 5 _ rfl; have y6 := kcell hb 6 _ rfl
  simp [results, h, ht', loadVar, asAddr, go_sem, hu, y0, y1, y2, y3, y4, y5, y6, isAgg]
theorem OwnNms.snoc {W w' : World} {base : Nat} {v v' : Value} {vs : List SlV} {ns : List Nm} {x : SlV} {l : Nm} (h1 : OwnG 24 slEnc W base v vs) (h2 : vs.length = ns.length) (h3 : ∀ j (h1 : j < vs.length) (h2 : j < ns.length), OwnG 9 strV W base (slEnc vs[j]) ns[j])
    (hx : OwnG 9 strV W base (slEnc x) l) (hn : OwnG 24 slEnc w' base v' (vs ++ [x])) (hg : W.grownBy w' v.ownBlock) : OwnNms w' base v' (ns ++ [l]) := by
  refine ⟨vs ++ [x], hn, by simp; omega, fun j a b => ?_⟩
  by_cases hj : j < vs.length
  · rw [List.getElem_append_left hj, List.getElem_append_left (by omega)]
    exact (h3 j hj (by omega)).kept2 h1 (by decide) hg
  · obtain rfl : j = vs.length := by simp at a; omega
    have e1 : (vs ++ [x])[vs.length]'a = x := by simp
    have e2 : (ns ++ [l])[vs.length]'b = l := by simp [h2]
    rw [e1, e2]
    exact hx.kept2 h1 (by decide) hg

theorem DRow.keepB {W : World} {base : Nat} {vn vu vt vr : Value} {d : Dat} (h : DRow W base vn vu vt vr d) {B : Nat} {cs : Array Value} (hB : W.heap[B]? = some (.cells cs 103)) (j : Nat) (u : Value) : DRow (W.setCell ⟨B, j, none⟩ u) base vn vu vt vr d := by
  obtain ⟨⟨vs, h1, h2, h3⟩, i1, i2, i3⟩ := h
  exact ⟨⟨vs, h1.keptB hB (by decide) j u, h2, fun i a b => (h3 i a b).keptB hB (by decide) j u⟩, i1.keptB hB (by decide) j u, i2.keptB hB (by decide) j u, i3.keptB hB (by decide) j u⟩
def FrAt (W : World) (base : Nat) (cs : List Value) (r : Rc) : Prop :=
  ∃ vo vn vu vt vr, cs = [vo, .int .u32 (r.ttl : Int), .int .i64 r.data.ty, vn, vu, vt, vr] ∧ OwnG 9 strV W base vo r.owner ∧ DRow W base vn vu vt vr r.data
theorem FrAt.rcAt {W : World} {base : Nat} {cs : List Value} {r : Rc} (h : FrAt W base cs r) : RcAt W cs r := by
  obtain ⟨vo, vn, vu, vt, vr, e, h1, h2⟩ := h
  exact ⟨vo, vn, vu, vt, vr, e, h1.nmAt, h2.datAt⟩
theorem FrAt.below {W W' : World} {base : Nat} {cs : List Value} {r : Rc} (h : FrAt W base cs r) (hb : Below W.heap.size W W') : FrAt W' base cs r := by
  obtain ⟨vo, vn, vu, vt, vr, e, h1, h2⟩ := h
  exact ⟨vo, vn, vu, vt, vr, e, h1.below hb, h2.below hb⟩
theorem FrAt.keepB {W : World} {base : Nat} {cs : List Value} {r : Rc} (h : FrAt W base cs r) {B : Nat} {xs : Array Value} (hB : W.heap[B]? = some (.cells xs 103)) (j : Nat) (u : Value) : FrAt (W.setCell ⟨B, j, none⟩ u) base cs r := by
  obtain ⟨vo, vn, vu, vt, vr, e, h1, h2⟩ := h
  exact ⟨vo, vn, vu, vt, vr, e, h1.keptB hB (by decide) j u, h2.keepB hB j u⟩
theorem OwnC.ne_block {k : Nat} {T : TypeId} {W : World} {base : Nat} {v : Value} {xss : List (List Value)} (h : OwnC k T W base v xss) {B : Nat} {cs : Array Value} {t : TypeId} (hB : W.heap[B]? = some (.cells cs t)) (ht : t ≠ T) : some B ≠ v.ownBlock := by
  intro e
  rcases h.2 with ⟨rfl, _⟩ | ⟨g, cap, cur, rfl, _, hg, _⟩
  · cases e
  · simp only [Value.ownBlock] at e
    cases e
    rw [hg] at hB
    injection hB with hB
    injection hB with h1 h2
    exact ht h2.symm
theorem OwnG.kept_c {α : Type} {T T' : TypeId} {enc : α → Value} {W W' : World} {base base' k : Nat} {v v' : Value} {xs : List α} {yss : List (List Value)} (h : OwnG T enc W base v xs) (h' : OwnC k T' W base' v' yss) (hT : T ≠ T') (hg : W.grownBy W' v'.ownBlock) : OwnG T enc W' base v xs := by
  refine h.kept hg ?_
  rcases h.2 with ⟨rfl, _⟩ | ⟨g, cap, cur, rfl, _, hh, _⟩
  · left; rfl
  · right
    intro e
    exact h'.ne_block hh hT e
theorem FrAt.grown {W W' : World} {base base' : Nat} {cs : List Value} {r : Rc} {v' : Value} {yss : List (List Value)} (h : FrAt W base cs r) (h' : OwnC 7 103 W base' v' yss) (hg : W.grownBy W' v'.ownBlock) : FrAt W' base cs r := by
  obtain ⟨vo, vn, vu, vt, vr, e, h1, ⟨⟨vs, k1, k2, k3⟩, i1, i2, i3⟩⟩ := h
  exact ⟨vo, vn, vu, vt, vr, e, h1.kept_c h' (by decide) hg, ⟨⟨vs, k1.kept_c h' (by decide) hg, k2, fun i a b => (k3 i a b).kept_c h' (by decide) hg⟩, i1.kept_c h' (by decide) hg, i2.kept_c h' (by decide) hg, i3.kept_c h' (by decide) hg⟩⟩
theorem FrAt.weaken {W : World} {base b2 : Nat} {cs : List Value} {r : Rc} (h : FrAt W base cs r) (hb : b2 ≤ base) : FrAt W b2 cs r := by
  obtain ⟨vo, vn, vu, vt, vr, e, h1, ⟨⟨vs, k1, k2, k3⟩, i1, i2, i3⟩⟩ := h
  exact ⟨vo, vn, vu, vt, vr, e, h1.weaken hb, ⟨⟨vs, k1.weaken hb, k2, fun i a b => (k3 i a b).weaken hb⟩, i1.weaken hb, i2.weaken hb, i3.weaken hb⟩⟩
def FreshPost (w : World) (r : Rc) (e : Ending) (w' : World) : Prop := ∃ cs, e = .returned (.agg cs.toArray) ∧ FrAt w' w.heap.size cs r ∧ Below w.heap.size w w'
structure FrB (w : World) (vo : Value) (t x : Int) (vn vu vt vr un uu ut ur : Value) (W : World) : Prop where
  p : W.heap[w.heap.size]? = some (.cells #[vo, .int .u32 t, .int .i64 x, vn, vu, vt, vr] 103)
  q : W.heap[w.heap.size + 1]? = some (.cells #[.slice none 0 0, .int .u32 0, .int .i64 0, .slice none 0 0, .slice none 0 0, .slice none 0 0, .slice none 0 0] 103)
  d : W.heap[w.heap.size + 1 + 1]? = some (.cells #[.int .i64 x, un, uu, ut, ur] 101)
theorem FrB.below {w W W' : World} {vo : Value} {t x : Int} {vn vu vt vr un uu ut ur : Value} (h : FrB w vo t x vn vu vt vr un uu ut ur W) (hb : Below W.heap.size W W') : FrB w vo t x vn vu vt vr un uu ut ur W' :=
  ⟨(hb.block _ (kblock_lt h.p)).trans h.p, (hb.block _ (kblock_lt h.q)).trans h.q, (hb.block _ (kblock_lt h.d)).trans h.d⟩
theorem FrB.grown {w W W' : World} {vo : Value} {t x : Int} {vn vu vt vr un uu ut ur : Value} (h : FrB w vo t x vn vu vt vr un uu ut ur W) {α : Type} {T : TypeId} {enc : α → Value} {base : Nat} {v : Value} {xs : List α} (ho : OwnG T enc W base v xs) (h1 : 103 ≠ T) (h2 : 101 ≠ T) (hg : W.grownBy W' v.ownBlock) : FrB w vo t x vn vu vt vr un uu ut ur W' :=
  ⟨(hg.block _ (kblock_lt h.p) (ho.ne_block h.p h1)).trans h.p, (hg.block _ (kblock_lt h.q) (ho.ne_block h.q h1)).trans h.q, (hg.block _ (kblock_lt h.d) (ho.ne_block h.d h2)).trans h.d⟩
theorem FrB.put {w W : World} {vo : Value} {t x : Int} {vn vu vt vr un uu ut ur : Value} (h : FrB w vo t x vn vu vt vr un uu ut ur W) (j : Nat) (u : Value) {un' uu' ut' ur' : Value} (hj : #[Value.int .i64 x, un, uu, ut, ur].setIfInBounds j u = #[.int .i64 x, un', uu', ut', ur']) :
    FrB w vo t x vn vu vt vr un' uu' ut' ur' (W.setCell ⟨w.heap.size + 1 + 1, j, none⟩ u) := by
  refine ⟨((grownBy_set W _ j u).block _ (kblock_lt h.p) (by simp; omega)).trans h.p, ((grownBy_set W _ j u).block _ (kblock_lt h.q) (by simp)).trans h.q, ?_⟩
  have := block_set h.d j u
  rw [hj] at this
  exact this
structure FrR (w : World) (r : Rc) (un : Value) (W : World) : Prop where
  names : OwnNms W w.heap.size un r.data.names
  below : Below w.heap.size w W
theorem FrR.next {w W W' : World} {r : Rc} {un : Value} (h : FrR w r un W) (hb : Below W.heap.size W W') : FrR w r un W' := ⟨h.names.below hb, h.below.trans (hb.mono h.below.size)⟩
theorem FrR.put {w W : World} {r : Rc} {un : Value} (h : FrR w r un W) {cs : Array Value} (hB : W.heap[w.heap.size + 1 + 1]? = some (.cells cs 101)) (j : Nat) (u : Value) : FrR w r un (W.setCell ⟨w.heap.size + 1 + 1, j, none⟩ u) :=
  ⟨h.names.keptB hB j u, h.below.setCell (p := ⟨w.heap.size + 1 + 1, j, none⟩) (by simp; omega) u⟩

structure SF (w : World) (r : Rc) (vo : Value) (t x : Int) (vn vu vt vr un uu ut ur : Value) (W : World) : Prop where
  p : W.heap[w.heap.size]? = some (.cells #[vo, .int .u32 t, .int .i64 x, vn, vu, vt, vr] 103)
  d : W.heap[w.heap.size + 1 + 1]? = some (.cells #[.int .i64 x, un, uu, ut, ur] 101)
  q : ∃ cs, W.heap[w.heap.size + 1]? = some (.cells cs 103) ∧ cs.size = 7
  row : DRow W w.heap.size un uu ut ur r.data
  below : Below w.heap.size w W
theorem SF.keep {w W W' : World} {r : Rc} {vo : Value} {t x : Int} {vn vu vt vr un uu ut ur : Value} (h : SF w r vo t x vn vu vt vr un uu ut ur W) (hb : Below W.heap.size W W') : SF w r vo t x vn vu vt vr un uu ut ur W' := by
  obtain ⟨cs, hq, hs⟩ := h.q
  exact ⟨(hb.block _ (kblock_lt h.p)).trans h.p, (hb.block _ (kblock_lt h.d)).trans h.d, ⟨cs, (hb.block _ (kblock_lt hq)).trans hq, hs⟩, h.row.below hb, h.below.trans (hb.mono h.below.size)⟩
theorem SF.put {w W : World} {r : Rc} {vo : Value} {t x : Int} {vn vu vt vr un uu ut ur : Value} (h : SF w r vo t x vn vu vt vr un uu ut ur W) (j : Nat) (u : Value) : SF w r vo t x vn vu vt vr un uu ut ur (W.setCell ⟨w.heap.size + 1, j, none⟩ u) := by
  obtain ⟨cs, hq, hs⟩ := h.q
  exact ⟨((grownBy_set W _ j u).block _ (kblock_lt h.p) (by simp)).trans h.p, ((grownBy_set W _ j u).block _ (kblock_lt h.d) (by simp)).trans h.d, ⟨_, block_set hq j u, by simp [hs]⟩, h.row.keepB hq j u, h.below.setCell (p := ⟨w.heap.size + 1, j, none⟩) (by simp) u⟩
theorem arr7 {cs : Array Value} (h : cs.size = 7) : ∃ q0 q1 q2 q3 q4 q5 q6, cs = #[q0, q1, q2, q3, q4, q5, q6] := by
  obtain ⟨l⟩ := cs
  match l, h with
  | [q0, q1, q2, q3, q4, q5, q6], _ => exact ⟨q0, q1, q2, q3, q4, q5, q6, rfl⟩
def SS (w : World) (r : Rc) (vo : Value) (t x : Int) (vn vu vt vr un uu ut ur : Value) (W : World) : Prop :=
  W.cell? ⟨w.heap.size, 0, none⟩ = some vo ∧ W.cell? ⟨w.heap.size, 1, none⟩ = some (.int .u32 t) ∧ W.cell? ⟨w.heap.size + 1 + 1, 0, none⟩ = some (.int .i64 x) ∧ W.cell? ⟨w.heap.size + 1 + 1, 1, none⟩ = some un ∧ W.cell? ⟨w.heap.size + 1 + 1, 2, none⟩ = some uu ∧ W.cell? ⟨w.heap.size + 1 + 1, 3, none⟩ = some ut ∧ W.cell? ⟨w.heap.size + 1 + 1, 4, none⟩ = some ur ∧ SF w r vo t x vn vu vt vr un uu ut ur W
theorem SF.ss {w W : World} {r : Rc} {vo : Value} {t x : Int} {vn vu vt vr un uu ut ur : Value} (h : SF w r vo t x vn vu vt vr un uu ut ur W) : SS w r vo t x vn vu vt vr un uu ut ur W :=
  ⟨kcell h.p 0 _ rfl, kcell h.p 1 _ rfl, kcell h.d 0 _ rfl, kcell h.d 1 _ rfl, kcell h.d 2 _ rfl, kcell h.d 3 _ rfl, kcell h.d 4 _ rfl, h⟩
theorem SS.sf {w W : World} {r : Rc} {vo : Value} {t x : Int} {vn vu vt vr un uu ut ur : Value} (h : SS w r vo t x vn vu vt vr un uu ut ur W) : SF w r vo t x vn vu vt vr un uu ut ur W := h.2.2.2.2.2.2.2

set_option maxRecDepth 100000 in
set_option maxHeartbeats 16000000 in
theorem rec_fresh (cs : List Value) (r : Rc) (w : World) (hA : RcAt w cs r) (hk : RcOK r) :
    Calls Tryz.prog 116 #[.agg cs.toArray] w (FreshPost w r) := by
  obtain ⟨vo, vn, vu, vt, vr, rfl, a1, a2⟩ := hA
  obtain ⟨un, uu, ut, ur, e, n1, n2, n3, n4⟩ := a2
  have e' : #[Value.int .i64 r.data.ty, vn, vu, vt, vr] = #[Value.int .i64 r.data.ty, un, uu, ut, ur] := by injection e
  simp only [Array.mk.injEq, List.cons.injEq, and_true, true_and] at e'
  obtain ⟨rfl, rfl, rfl, rfl⟩ := e'
  clear e
  have HA := Lib.hid a1
  have HU := Lib.hid n2
  have HTX := Lib.hid n3
  have HRW := Lib.hid n4
  have HNMS := Lib.hid n1
  obtain ⟨vs, s1, sl, s2⟩ := n1
  obtain ⟨an, cn, rfl, x1⟩ := id s1
  obtain ⟨ao, co, rfl, -⟩ := nmAt_sl.1 a1
  obtain ⟨au, cu, rfl, -⟩ := n2
  obtain ⟨ax, cx, rfl, -⟩ := nmAt_sl.1 n3
  obtain ⟨ar, cr, rfl, -⟩ := n4
  obtain ⟨no, hno⟩ : ∃ m, (List.map strV r.owner).length = m := ⟨_, rfl⟩
  obtain ⟨nu, hnu⟩ : ∃ m, (List.map u32V r.data.nums).length = m := ⟨_, rfl⟩
  obtain ⟨nx, hnx⟩ : ∃ m, (List.map strV r.data.texts).length = m := ⟨_, rfl⟩
  obtain ⟨nr, hnr⟩ : ∃ m, (List.map bv r.data.raw).length = m := ⟨_, rfl⟩
  obtain ⟨n, hn⟩ : ∃ n, vs.length = n := ⟨_, rfl⟩
  obtain ⟨x, hx⟩ : ∃ x, r.data.ty = x := ⟨_, rfl⟩
  obtain ⟨t, ht⟩ : ∃ t, (r.ttl : Int) = t := ⟨_, rfl⟩
  have hnb : n ≤ 1048576 := by have := hk.2.2.2.1; omega
  have hcl : ∀ W, Below w.heap.size w W → ∀ j (hj : j < vs.length), ∃ b off, an = some ⟨b, off, none⟩ ∧ b < w.heap.size ∧ W.cell? ⟨b, off + j, none⟩ = some vs[j] := fun W hb j hj => s1.cell hb j hj
  have s2' : ∀ j (h1 : j < vs.length) (h2 : j < r.data.names.length), NmAt w vs[j] r.data.names[j] := fun j h1 _ => s2 j h1
  have HS2 := Lib.hid s2'
  have HK := Lib.hid hk; have HN := Lib.hid hn; have HX := Lib.hid hx; have HT := Lib.hid ht; have HSL := Lib.hid sl
  rw [hno] at HA ⊢
  rw [hnu] at HU ⊢
  rw [hnx] at HTX ⊢
  rw [hnr] at HRW ⊢
  rw [hn] at HNMS s1 ⊢
  rw [hx, ht]
  have hncn : n ≤ cn := by omega
  have HCL := Lib.hid hcl
  clear a1 s2 s2' hk hn hx ht hno hnu hnx hnr sl x1 hcl s1
  obtain ⟨W3, hW3⟩ : ∃ W3, ((w.alloc (.cells #[.slice ao no co, .int .u32 t, .int .i64 x, .slice an n cn, .slice au nu cu, .slice ax nx cx, .slice ar nr cr] 103)).alloc (.cells #[.slice none 0 0, .int .u32 0, .int .i64 0, .slice none 0 0, .slice none 0 0, .slice none 0 0, .slice none 0 0] 103)).alloc (.cells #[.int .i64 x, .slice an n cn, .slice au nu cu, .slice ax nx cx, .slice ar nr cr] 101) = W3 := ⟨_, rfl⟩
  have HF0 : Hid (FrB w (.slice ao no co) t x (.slice an n cn) (.slice au nu cu) (.slice ax nx cx) (.slice ar nr cr) (.slice an n cn) (.slice au nu cu) (.slice ax nx cx) (.slice ar nr cr) W3) := by
    rw [← hW3]
    refine Lib.hid ⟨?_, ?_, ?_⟩
    · exact (Below.heap_alloc _ _ _ (by simp; omega)).trans ((Below.heap_alloc _ _ _ (by simp)).trans (knew w _))
    · have := knew (w.alloc (.cells #[.slice ao no co, .int .u32 t, .int .i64 x, .slice an n cn, .slice au nu cu, .slice ax nx cx, .slice ar nr cr] 103)) (.cells #[.slice none 0 0, .int .u32 0, .int .i64 0, .slice none 0 0, .slice none 0 0, .slice none 0 0, .slice none 0 0] 103)
      rw [World.size_alloc] at this
      exact (Below.heap_alloc _ _ _ (by simp)).trans this
    · have := knew ((w.alloc (.cells #[.slice ao no co, .int .u32 t, .int .i64 x, .slice an n cn, .slice au nu cu, .slice ax nx cx, .slice ar nr cr] 103)).alloc (.cells #[.slice none 0 0, .int .u32 0, .int .i64 0, .slice none 0 0, .slice none 0 0, .slice none 0 0, .slice none 0 0] 103)) (.cells #[.int .i64 x, .slice an n cn, .slice au nu cu, .slice ax nx cx, .slice ar nr cr] 101)
      rw [World.size_alloc, World.size_alloc] at this
      exact this
  have HB0 : Hid (Below w.heap.size w W3) := by rw [← hW3]; exact Lib.hid ((((Below.refl _ w).alloc (Nat.le_refl _) _).alloc (by simp) _).alloc (by simp; omega) _)
  have HW3 := Lib.hid hW3
  clear hW3
  go_enter Tryz.func116, Tryz.ntmps116
  go_wp2
  rw [HW3.out]
  go_loopw [4, 12] (fun v4 vi wr => ∃ (k : Nat) (ga : Option Addr) (gc : Nat), v4 = .slice ga k gc ∧ vi = .int .i64 k ∧ k ≤ n ∧ Hid (OwnNms wr w.heap.size (.slice ga k gc) (r.data.names.take k)) ∧ Hid (FrB w (.slice ao no co) t x (.slice an n cn) (.slice au nu cu) (.slice ax nx cx) (.slice ar nr cr) (.slice an n cn) (.slice au nu cu) (.slice ax nx cx) (.slice ar nr cr) wr) ∧ Hid (Below w.heap.size w wr)) (fun _ vi _ => n - (intOf vi).toNat)
  case atStart => exact ⟨0, none, 0, rfl, rfl, Nat.zero_le _, Lib.hid (OwnNms.nil _ _), HF0, HB0⟩
  case round =>
    obtain ⟨k, ga, gc, rfl, rfl, hk, HO, HF, HB⟩ := hrel
    by_cases hlt : k < n
    · have hltz : (k : Int) < (n : Int) := by omega
      have hk1 : k < vs.length := by have := HN.out; omega
      have hk2 : k < r.data.names.length := by have := HSL.out; omega
      obtain ⟨b, off, rfl, hb, hcell⟩ := HCL.out wr HB.out k hk1
      have hnm := HS2.out k hk1 hk2
      have hnmr := hnm.below (W' := wr) HB.out
      have hok : NmOK r.data.names[k] := HK.out.2.2.2.2.1 _ (List.getElem_mem hk2)
      obtain ⟨av, cv, ev, -⟩ := nmAt_sl.1 hnm
      rw [ev] at hcell hnmr
      obtain ⟨m, hm⟩ : ∃ m, (List.map strV r.data.names[k]).length = m := ⟨_, rfl⟩
      rw [hm] at hcell hnmr
      have hcl := fun W (hb : Below wr.heap.size wr W) => clone_Name (.slice av m cv) r.data.names[k] W (hnmr.below hb).1 (hnmr.below hb).2 (by have := hok.1; omega)
      have hc0 := hcl wr (Below.refl _ _)
      have HK2 := Lib.hid hk2
      have HTK := Lib.hid (show r.data.names.take (k + 1) = r.data.names.take k ++ [r.data.names[k]] from List.take_succ_eq_append_getElem hk2)
      generalize r.data.names[k] = nm at hc0 HTK
      clear hcl hnm hnmr hok ev hm hk1 hk2
      go_wp2_with fail
      refine hc0.mono ?_
      rintro e w2 ⟨v', rfl, hown, hb2⟩
      have HF2 := Lib.hid (HF.out.below hb2)
      have HB2 := Lib.hid (HB.out.trans (hb2.mono HB.out.size))
      obtain ⟨a2, c2, rfl⟩ := hown.shape
      obtain ⟨m2, hm2⟩ : ∃ m, nm.length = m := ⟨_, rfl⟩
      obtain ⟨vs', hv1, hv2, hv3⟩ := HO.out.below hb2
      have hvk : vs'.length = k := by rw [hv2, List.length_take]; have := HK2.out; omega
      have hown' : OwnG 9 strV w2 w.heap.size (slEnc (a2, m2, c2)) nm := by rw [← hm2]; exact hown.weaken HB.out.size
      have HV := Lib.hid (And.intro hv2 hv3)
      have HOWN := Lib.hid hown'
      have HC := Lib.hid (show [Value.slice a2 m2 c2] = [((a2, m2, c2) : SlV)].map slEnc from rfl)
      have hz2 := HB2.out.size
      have HVK := Lib.hid hvk
      rw [hm2]
      clear hv2 hv3 hown hown' hm2 hb2 hc0 hcell hvk
      go_wp2_with (at_builtin; refine wpl_append_g w2 rfl (.tmp 16) (.tmp 19) elemNames rfl slEnc_one w.heap.size (.slice ga k gc) vs' rfl hv1 [.slice a2 m2 c2] [((a2, m2, c2) : SlV)] HC.out 1 1 rfl rfl hz2 (by have := HVK.out; unfold maxLen; simp; omega) (by have := HVK.out; simp; omega) ?_; intro v3 w3 hown3 hg3)
      have HO3 : Hid (OwnNms w3 w.heap.size v3 (r.data.names.take (k + 1))) := by
        rw [HTK.out]
        exact Lib.hid (OwnNms.snoc hv1 HV.out.1 HV.out.2 HOWN.out hown3 hg3)
      have HF3 := Lib.hid (HF2.out.grown hv1 (by decide) (by decide) hg3)
      have HB3 := Lib.hid (HB2.out.grown hg3 hz2 hv1.base_le)
      obtain ⟨a3, c3, rfl⟩ := hown3.shape
      have hl3 : (vs' ++ [((a2, m2, c2) : SlV)]).length = k + 1 := by rw [List.length_append, HVK.out]; rfl
      rw [hl3] at HO3
      clear hown3 hg3 hv1
      go_roundw
      case measure => simp [intOf]; omega
      case rel => exact ⟨k + 1, a3, c3, by rw [hl3], by go_num, by omega, HO3, HF3, HB3⟩
    · obtain rfl : k = n := by omega
      have HO1 : Hid (OwnNms wr w.heap.size (.slice ga k gc) r.data.names) := by
        have h := HO.out
        rw [List.take_of_length_le (by have := HN.out; have := HSL.out; omega)] at h
        exact Lib.hid h
      have HFR1 : Hid (FrR w r (.slice ga k gc) (wr.setCell ⟨w.heap.size + 1 + 1, 1, none⟩ (.slice ga k gc))) := Lib.hid (FrR.put ⟨HO1.out, HB.out⟩ HF.out.d 1 _)
      have HF1 : Hid (FrB w (.slice ao no co) t x (.slice an k cn) (.slice au nu cu) (.slice ax nx cx) (.slice ar nr cr) (.slice ga k gc) (.slice au nu cu) (.slice ax nx cx) (.slice ar nr cr) (wr.setCell ⟨w.heap.size + 1 + 1, 1, none⟩ (.slice ga k gc))) := Lib.hid (HF.out.put 1 _ rfl)
      have d1 := kcell HF.out.d 1 _ rfl
      have f1 := kfrozen HF.out.d 1
      have d2 := kcell HF.out.d 2 _ rfl
      have d2' := kcell HF1.out.d 2 _ rfl
      have hcu := clone_u32 (.slice au nu cu) ((r.data.nums.map u32V).map fun x => [x]) (wr.setCell ⟨w.heap.size + 1 + 1, 1, none⟩ (.slice ga k gc)) (slK_one (HU.out.below HFR1.out.below)) (by simp) (by simp [u32V]; try (intros; rfl)) (by simp; have := HK.out.2.2.2.2.2.1; omega)
      clear HO HO1 HB HCL HS2
      go_wp2_with fail
      refine hcu.mono ?_
      rintro e w4 ⟨v4, rfl, ho4, hb4⟩
      obtain ⟨m4, hm4⟩ : ∃ m, r.data.nums.length = m := ⟨_, rfl⟩
      have ho4' : OwnG 35 u32V w4 w.heap.size v4 r.data.nums := by
        rw [List.map_map] at ho4
        exact (ownG_of_C ho4).weaken HFR1.out.below.size
      obtain ⟨a4, c4, rfl⟩ := ho4'.shape
      have hf4 := HF1.out.below hb4
      have HFRA := Lib.hid ((HFR1.out.next hb4).put hf4.d 2 (.slice a4 r.data.nums.length c4))
      have HFA := Lib.hid (hf4.put 2 (.slice a4 r.data.nums.length c4) rfl)
      have HNA := Lib.hid (ho4'.keptB hf4.d (by decide) 2 (.slice a4 r.data.nums.length c4))
      have d3 := kcell hf4.d 2 _ rfl
      have f3 := kfrozen hf4.d 2
      have d4 := kcell HFA.out.d 3 _ rfl
      have hcx := clone_str (.slice ax nx cx) ((r.data.texts.map strV).map fun x => [x]) _ (slK_one (nmAt_sl.1 (HTX.out.below HFRA.out.below))) (by simp) (by simp [strV]; try (intros; rfl)) (by simp; have := HK.out.2.2.2.2.2.2.2.1.1; omega)
      rw [hm4] at HFRA HFA HNA hcx d4 ⊢
      clear ho4 ho4' hf4 hb4 d1 f1 d2 d2' HFR1 HF1 HF hcu
      go_wp2_with fail
      refine hcx.mono ?_
      rintro e w5 ⟨v5, rfl, ho5, hb5⟩
      obtain ⟨m5, hm5⟩ : ∃ m, r.data.texts.length = m := ⟨_, rfl⟩
      have ho5' : OwnG 9 strV w5 w.heap.size v5 r.data.texts := by
        rw [List.map_map] at ho5
        exact (ownG_of_C ho5).weaken HFRA.out.below.size
      obtain ⟨a5, c5, rfl⟩ := ho5'.shape
      have hf5 := HFA.out.below hb5
      have HFRB := Lib.hid ((HFRA.out.next hb5).put hf5.d 3 (.slice a5 r.data.texts.length c5))
      have HFB := Lib.hid (hf5.put 3 (.slice a5 r.data.texts.length c5) rfl)
      have HNB := Lib.hid ((HNA.out.below hb5).keptB hf5.d (by decide) 3 (.slice a5 r.data.texts.length c5))
      have HXB := Lib.hid (ho5'.keptB hf5.d (by decide) 3 (.slice a5 r.data.texts.length c5))
      have d5 := kcell hf5.d 3 _ rfl
      have f5 := kfrozen hf5.d 3
      have d6 := kcell HFB.out.d 4 _ rfl
      have hcr := clone_byte (.slice ar nr cr) ((r.data.raw.map bv).map fun x => [x]) _ (slK_one (HRW.out.below HFRB.out.below)) (by simp) (by simp [bv]; try (intros; rfl)) (by simp; have := HK.out.2.2.2.2.2.2.2.2; omega)
      rw [hm5] at HFRB HFB HNB HXB hcr d6 ⊢
      clear ho5 ho5' hf5 hb5 d3 f3 d4 HFRA HFA HNA hcx
      go_wp2_with fail
      refine hcr.mono ?_
      rintro e w6 ⟨v6, rfl, ho6, hb6⟩
      obtain ⟨m6, hm6⟩ : ∃ m, r.data.raw.length = m := ⟨_, rfl⟩
      have ho6' : OwnG 5 bv w6 w.heap.size v6 r.data.raw := by
        rw [List.map_map] at ho6
        exact (ownG_of_C ho6).weaken HFRB.out.below.size
      obtain ⟨a6, c6, rfl⟩ := ho6'.shape
      have hf6 := HFB.out.below hb6
      have HFRC := Lib.hid ((HFRB.out.next hb6).put hf6.d 4 (.slice a6 r.data.raw.length c6))
      have HFC := Lib.hid (hf6.put 4 (.slice a6 r.data.raw.length c6) rfl)
      have HNC := Lib.hid ((HNB.out.below hb6).keptB hf6.d (by decide) 4 (.slice a6 r.data.raw.length c6))
      have HXC := Lib.hid ((HXB.out.below hb6).keptB hf6.d (by decide) 4 (.slice a6 r.data.raw.length c6))
      have HRC := Lib.hid (ho6'.keptB hf6.d (by decide) 4 (.slice a6 r.data.raw.length c6))
      have d7 := kcell hf6.d 4 _ rfl
      have f7 := kfrozen hf6.d 4
      rw [hm6] at HFRC HFC HNC HXC HRC ⊢
      clear ho6 ho6' hf6 hb6 d5 f5 d6 HFRB HFB HNB HXB hcr
      go_wp2_with fail
      have hSF0 : SF w r (.slice ao no co) t x (.slice an k cn) (.slice au nu cu) (.slice ax nx cx) (.slice ar nr cr) (.slice ga k gc) (.slice a4 m4 c4) (.slice a5 m5 c5) (.slice a6 m6 c6) (w6.setCell ⟨w.heap.size + 1 + 1, 4, none⟩ (.slice a6 m6 c6)) :=
        ⟨HFC.out.p, HFC.out.d, ⟨_, HFC.out.q, rfl⟩, ⟨HFRC.out.names, HNC.out, HXC.out, HRC.out⟩, HFRC.out.below⟩
      generalize w6.setCell ⟨w.heap.size + 1 + 1, 4, none⟩ (.slice a6 m6 c6) = wB at hSF0 ⊢
      have hS0 := hSF0.ss
      have HCN := Lib.hid (fun (W : World) (h : SS w r (.slice ao no co) t x (.slice an k cn) (.slice au nu cu) (.slice ax nx cx) (.slice ar nr cr) (.slice ga k gc) (.slice a4 m4 c4) (.slice a5 m5 c5) (.slice a6 m6 c6) W) => clone_Name (.slice ao no co) r.owner W (HA.out.below h.sf.below).1 (HA.out.below h.sf.below).2 (by have := HK.out.1.1; omega))
      have KS := Lib.hid (fun (W W' : World) (h : SS w r (.slice ao no co) t x (.slice an k cn) (.slice au nu cu) (.slice ax nx cx) (.slice ar nr cr) (.slice ga k gc) (.slice a4 m4 c4) (.slice a5 m5 c5) (.slice a6 m6 c6) W) (hb : Below W.heap.size W W') => (h.sf.keep hb).ss)
      have KP := Lib.hid (fun (W : World) (y0 y1 y2 y3 y4 y5 y6 : Value) (h : SS w r (.slice ao no co) t x (.slice an k cn) (.slice au nu cu) (.slice ax nx cx) (.slice ar nr cr) (.slice ga k gc) (.slice a4 m4 c4) (.slice a5 m5 c5) (.slice a6 m6 c6) W) => (((((((h.sf.put 0 y0).put 1 y1).put 2 y2).put 3 y3).put 4 y4).put 5 y5).put 6 y6).ss)
      have KD := Lib.hid (fun (W : World) (h : SS w r (.slice ao no co) t x (.slice an k cn) (.slice au nu cu) (.slice ax nx cx) (.slice ar nr cr) (.slice ga k gc) (.slice a4 m4 c4) (.slice a5 m5 c5) (.slice a6 m6 c6) W) => KS.out W W.drew h (below_drewQ (Below.refl _ _) 1))
      unfold SS at hS0 HCN KS KP KD
      clear hSF0 d7 f7 HFRC HFC HNC HXC HRC HU HTX HRW HNMS
      go_region_held3 (fun W => W.cell? ⟨w.heap.size, 0, none⟩ = some (.slice ao no co) ∧ W.cell? ⟨w.heap.size, 1, none⟩ = some (.int .u32 t) ∧ W.cell? ⟨w.heap.size + 1 + 1, 0, none⟩ = some (.int .i64 x) ∧ W.cell? ⟨w.heap.size + 1 + 1, 1, none⟩ = some (.slice ga k gc) ∧ W.cell? ⟨w.heap.size + 1 + 1, 2, none⟩ = some (.slice a4 m4 c4) ∧ W.cell? ⟨w.heap.size + 1 + 1, 3, none⟩ = some (.slice a5 m5 c5) ∧ W.cell? ⟨w.heap.size + 1 + 1, 4, none⟩ = some (.slice a6 m6 c6) ∧ SF w r (.slice ao no co) t x (.slice an k cn) (.slice au nu cu) (.slice ax nx cx) (.slice ar nr cr) (.slice ga k gc) (.slice a4 m4 c4) (.slice a5 m5 c5) (.slice a6 m6 c6) W)
        (first | with_reducible assumption | (with_reducible exact KD.out _ (by with_reducible assumption)) | (with_reducible exact KP.out _ _ _ _ _ _ _ _ (by with_reducible assumption)))
        (first | ((with_reducible refine (HCN.out _ (by with_reducible assumption)).mono ?_); rintro e w7 ⟨v7, rfl, ho7, hb7⟩; obtain ⟨a7, c7, rfl⟩ := ho7.shape; have hS2 := KS.out _ _ (by assumption) hb7; have hq7 := hS2.2.2.2.2.2.2.2.q; obtain ⟨cs7, hq7, hs7⟩ := hq7; obtain ⟨q0, q1, q2, q3, q4, q5, q6, rfl⟩ := arr7 hs7; have fz0 := kfrozen hq7 0; have cl0 := kcell hq7 0 _ rfl; have fz1 := kfrozen hq7 1; have cl1 := kcell hq7 1 _ rfl; have fz2 := kfrozen hq7 2; have cl2 := kcell hq7 2 _ rfl; have fz3 := kfrozen hq7 3; have cl3 := kcell hq7 3 _ rfl; have fz4 := kfrozen hq7 4; have cl4 := kcell hq7 4 _ rfl; have fz5 := kfrozen hq7 5; have cl5 := kcell hq7 5 _ rfl; have fz6 := kfrozen hq7 6; have cl6 := kcell hq7 6 _ rfl))
      go_wp2_with fail
      have HS7 := hS2.2.2.2.2.2.2.2
      have hsz : w.heap.size ≤ wB.heap.size := hS0.2.2.2.2.2.2.2.below.size
      have hown7 : OwnG 9 strV w7 w.heap.size (.slice a7 r.owner.length c7) r.owner := ho7.weaken hsz
      clear ho7
      have hb_0 := block_set hq7 0 (.slice a7 r.owner.length c7)
      have ho_0 := hown7.keptB hq7 (by decide) 0 (.slice a7 r.owner.length c7)
      have hb_1 := block_set hb_0 1 (.int .u32 t)
      have ho_1 := ho_0.keptB hb_0 (by decide) 1 (.int .u32 t)
      have hb_2 := block_set hb_1 2 (.int .i64 x)
      have ho_2 := ho_1.keptB hb_1 (by decide) 2 (.int .i64 x)
      have hb_3 := block_set hb_2 3 (.slice ga k gc)
      have ho_3 := ho_2.keptB hb_2 (by decide) 3 (.slice ga k gc)
      have hb_4 := block_set hb_3 4 (.slice a4 m4 c4)
      have ho_4 := ho_3.keptB hb_3 (by decide) 4 (.slice a4 m4 c4)
      have hb_5 := block_set hb_4 5 (.slice a5 m5 c5)
      have ho_5 := ho_4.keptB hb_4 (by decide) 5 (.slice a5 m5 c5)
      have hb_6 := block_set hb_5 6 (.slice a6 m6 c6)
      have ho_6 := ho_5.keptB hb_5 (by decide) 6 (.slice a6 m6 c6)
      have hsN := (((((((HS7.put 0 (.slice a7 r.owner.length c7)).put 1 (.int .u32 t)).put 2 (.int .i64 x)).put 3 (.slice ga k gc)).put 4 (.slice a4 m4 c4)).put 5 (.slice a5 m5 c5)).put 6 (.slice a6 m6 c6))
      have hqN : (_ : World).heap[w.heap.size + 1]? = some (.cells #[.slice a7 r.owner.length c7, .int .u32 t, .int .i64 x, .slice ga k gc, .slice a4 m4 c4, .slice a5 m5 c5, .slice a6 m6 c6] 103) := hb_6
      refine bodyPost_ret (results_rec rfl _ _ rfl hqN) rfl ?_
      exact ⟨[.slice a7 r.owner.length c7, .int .u32 t, .int .i64 x, .slice ga k gc, .slice a4 m4 c4, .slice a5 m5 c5, .slice a6 m6 c6], rfl, ⟨_, _, _, _, _, by rw [HT.out, HX.out], ho_6, hsN.row⟩, hsN.below⟩
end Go.Proofs.YtckammgnmgkieaaGreat

