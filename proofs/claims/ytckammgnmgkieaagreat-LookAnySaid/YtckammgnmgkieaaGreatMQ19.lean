import Derived.Deep.RegionHeld3
import Derived.RangeFuncKeeps
import Derived.RangeFuncNested
import Derived.RangeFuncWrites
import Derived.Test.YtckammgnmgkieaaGreatMQ27
namespace Go.Proofs.YtckammgnmgkieaaGreat
set_option linter.unusedVariables false
set_option linter.unusedSimpArgs false
set_option maxRecDepth 100000
set_option maxHeartbeats 16000000
open Go.RowKit Go.Shelf
theorem qei {α : Type} {T : TypeId} {enc : α → Value} {W : World} {base : Nat} {v : Value} {xs : List α} (h : OwnC 1 T W base v (xs.map fun x => [enc x])) : OwnG T enc W base v xs := by
 unfold OwnG
 have e : (xs.map fun x => [enc x]).flatMap (fun cs => cs) = xs.map enc := by
  have : ∀ xs : List α, (xs.map fun x => [enc x]).flatMap (fun cs => cs) = xs.map enc := fun xs => by
   induction xs with
   | nil => rfl
   | cons x r ih => rw [List.map_cons, List.flatMap_cons, ih]; rfl
  exact this xs
 unfold OwnC OwnK at h
 rw [e, List.length_map] at h
 exact h
theorem qiu {fn : Func} {t : Tmp} (h : fn.results = #[.cell t 103]) (tmps : Array Value) (W : World) {a : Nat} {x0 x1 x2 x3 x4 x5 x6 : Value}
 (ht : tmps.getD t undef = .pointer (some ⟨a, 0, none⟩)) (hb : W.heap[a]? = some (.cells #[x0, x1, x2, x3, x4, x5, x6] 103)) : (results fn tmps).run Tryz.prog W = .ok (.agg #[x0, x1, x2, x3, x4, x5, x6]) W := by
 have ht' : tmps[t]?.getD undef = .pointer (some ⟨a, 0, none⟩) := by rw [← ht]; simp
 have hu : ∀ w, Sem.run Tryz.prog (underlying 103) w = .ok _ w := run_underlying Tryz.underlying103
 have y0 := kcell hb 0 _ rfl; have y1 := kcell hb 1 _ rfl; have y2 := kcell hb 2 _ rfl; have y3 := kcell hb 3 _ rfl; have y4 := kcell hb 4 _ rfl; have y5 := kcell hb 5 _ rfl; have y6 := kcell hb 6 _ rfl
 simp [results, h, ht', loadVar, asAddr, go_sem, hu, y0, y1, y2, y3, y4, y5, y6, isAgg]
theorem OwnNms.snoc {W w' : World} {base : Nat} {v v' : Value} {vs : List SlV} {ns : List Nm} {x : SlV} {l : Nm} (h1 : OwnG 24 slEnc W base v vs) (h2 : vs.length = ns.length) (h3 : ∀ j (h1 : j < vs.length) (h2 : j < ns.length), OwnG 9 strV W base (slEnc vs[j]) ns[j])
 (hx : OwnG 9 strV W base (slEnc x) l) (hn : OwnG 24 slEnc w' base v' (vs ++ [x])) (hg : W.grownBy w' v.ownBlock) : OwnNms w' base v' (ns ++ [l]) := by
 refine ⟨vs ++ [x], hn, by simp; omega, fun j a b => ?_⟩
 by_cases hj : j < vs.length
 ·rw [List.getElem_append_left hj, List.getElem_append_left (by omega)]
  exact (h3 j hj (by omega)).kept2 h1 (by decide) hg
 ·obtain rfl : j = vs.length := by simp at a; omega
  have e1 : (vs ++ [x])[vs.length]'a = x := by simp
  have e2 : (ns ++ [l])[vs.length]'b = l := by simp [h2]
  rw [e1, e2]
  exact hx.kept2 h1 (by decide) hg
theorem DRow.keepB {W : World} {base : Nat} {vn vu vt vr : Value} {d : Dat} (h : DRow W base vn vu vt vr d) {B : Nat} {cs : Array Value} (hB : W.heap[B]? = some (.cells cs 103)) (j : Nat) (u : Value) : DRow (W.setCell ⟨B, j, none⟩ u) base vn vu vt vr d := by
 obtain ⟨⟨vs, h1, h2, h3⟩, i1, i2, i3⟩ := h
 exact ⟨⟨vs, h1.keptB hB (by decide) j u, h2, fun i a b => (h3 i a b).keptB hB (by decide) j u⟩, i1.keptB hB (by decide) j u, i2.keptB hB (by decide) j u, i3.keptB hB (by decide) j u⟩
def FrAt (W : World) (base : Nat) (cs : List Value) (r : Rc) : Prop :=
 ∃ vo vn vu vt vr, cs = [vo, .int .u32 (r.ttl : Int), .int .i64 r.data.ty, vn, vu, vt, vr] ∧ OwnG 9 strV W base vo r.owner ∧ DRow W base vn vu vt vr r.data
theorem FrAt.rcAt {W : World} {base : Nat} {cs : List Value} {r : Rc} (h : FrAt W base cs r) : RcAt W cs r := by
 obtain ⟨vo, vn, vu, vt, vr, e, h1, h2⟩ := h
 exact ⟨vo, vn, vu, vt, vr, e, h1.nmAt, h2.datAt⟩
theorem FrAt.below {W W' : World} {base : Nat} {cs : List Value} {r : Rc} (h : FrAt W base cs r) (hb : Below W.heap.size W W') : FrAt W' base cs r := by
 obtain ⟨vo, vn, vu, vt, vr, e, h1, h2⟩ := h
 exact ⟨vo, vn, vu, vt, vr, e, h1.below hb, h2.below hb⟩
theorem FrAt.keepB {W : World} {base : Nat} {cs : List Value} {r : Rc} (h : FrAt W base cs r) {B : Nat} {xs : Array Value} (hB : W.heap[B]? = some (.cells xs 103)) (j : Nat) (u : Value) : FrAt (W.setCell ⟨B, j, none⟩ u) base cs r := by
 obtain ⟨vo, vn, vu, vt, vr, e, h1, h2⟩ := h
 exact ⟨vo, vn, vu, vt, vr, e, h1.keptB hB (by decide) j u, h2.keepB hB j u⟩
theorem OwnC.ne_block {k : Nat} {T : TypeId} {W : World} {base : Nat} {v : Value} {xss : List (List Value)} (h : OwnC k T W base v xss) {B : Nat} {cs : Array Value} {t : TypeId} (hB : W.heap[B]? = some (.cells cs t)) (ht : t ≠ T) : some B ≠ v.ownBlock := by
 intro e
 rcases h.2 with ⟨rfl, _⟩ | ⟨g, cap, cur, rfl, _, hg, _⟩
 ·cases e
 ·simp only [Value.ownBlock] at e
  cases e
  rw [hg] at hB
  injection hB with hB
  injection hB with h1 h2
  exact ht h2.symm
theorem OwnG.kept_c {α : Type} {T T' : TypeId} {enc : α → Value} {W W' : World} {base base' k : Nat} {v v' : Value} {xs : List α} {yss : List (List Value)} (h : OwnG T enc W base v xs) (h' : OwnC k T' W base' v' yss) (hT : T ≠ T') (hg : W.grownBy W' v'.ownBlock) : OwnG T enc W' base v xs := by
 refine h.kept hg ?_
 rcases h.2 with ⟨rfl, _⟩ | ⟨g, cap, cur, rfl, _, hh, _⟩
 ·left; rfl
 ·right
  intro e
  exact h'.ne_block hh hT e
theorem FrAt.grown {W W' : World} {base base' : Nat} {cs : List Value} {r : Rc} {v' : Value} {yss : List (List Value)} (h : FrAt W base cs r) (h' : OwnC 7 103 W base' v' yss) (hg : W.grownBy W' v'.ownBlock) : FrAt W' base cs r := by
 obtain ⟨vo, vn, vu, vt, vr, e, h1, ⟨⟨vs, k1, k2, k3⟩, i1, i2, i3⟩⟩ := h
 exact ⟨vo, vn, vu, vt, vr, e, h1.kept_c h' (by decide) hg, ⟨⟨vs, k1.kept_c h' (by decide) hg, k2, fun i a b => (k3 i a b).kept_c h' (by decide) hg⟩, i1.kept_c h' (by decide) hg, i2.kept_c h' (by decide) hg, i3.kept_c h' (by decide) hg⟩⟩
theorem FrAt.weaken {W : World} {base b2 : Nat} {cs : List Value} {r : Rc} (h : FrAt W base cs r) (hb : b2 ≤ base) : FrAt W b2 cs r := by
 obtain ⟨vo, vn, vu, vt, vr, e, h1, ⟨⟨vs, k1, k2, k3⟩, i1, i2, i3⟩⟩ := h
 exact ⟨vo, vn, vu, vt, vr, e, h1.weaken hb, ⟨⟨vs, k1.weaken hb, k2, fun i a b => (k3 i a b).weaken hb⟩, i1.weaken hb, i2.weaken hb, i3.weaken hb⟩⟩
def qkZ (w : World) (r : Rc) (e : Ending) (w' : World) : Prop := ∃ cs, e = .returned (.agg cs.toArray) ∧ FrAt w' w.heap.size cs r ∧ Below w.heap.size w w'
structure FrB (w : World) (vo : Value) (t x : Int) (vn vu vt vr un uu ut ur : Value) (W : World) : Prop where
 p : W.heap[w.heap.size]? = some (.cells #[vo, .int .u32 t, .int .i64 x, vn, vu, vt, vr] 103)
 q : W.heap[w.heap.size + 1]? = some (.cells #[.slice none 0 0, .int .u32 0, .int .i64 0, .slice none 0 0, .slice none 0 0, .slice none 0 0, .slice none 0 0] 103)
 d : W.heap[w.heap.size + 1 + 1]? = some (.cells #[.int .i64 x, un, uu, ut, ur] 101)
theorem FrB.below {w W W' : World} {vo : Value} {t x : Int} {vn vu vt vr un uu ut ur : Value} (h : FrB w vo t x vn vu vt vr un uu ut ur W) (hb : Below W.heap.size W W') : FrB w vo t x vn vu vt vr un uu ut ur W' :=
 ⟨(hb.block _ (qaa h.p)).trans h.p, (hb.block _ (qaa h.q)).trans h.q, (hb.block _ (qaa h.d)).trans h.d⟩
theorem FrB.grown {w W W' : World} {vo : Value} {t x : Int} {vn vu vt vr un uu ut ur : Value} (h : FrB w vo t x vn vu vt vr un uu ut ur W) {α : Type} {T : TypeId} {enc : α → Value} {base : Nat} {v : Value} {xs : List α} (ho : OwnG T enc W base v xs) (h1 : 103 ≠ T) (h2 : 101 ≠ T) (hg : W.grownBy W' v.ownBlock) : FrB w vo t x vn vu vt vr un uu ut ur W' :=
 ⟨(hg.block _ (qaa h.p) (ho.ne_block h.p h1)).trans h.p, (hg.block _ (qaa h.q) (ho.ne_block h.q h1)).trans h.q, (hg.block _ (qaa h.d) (ho.ne_block h.d h2)).trans h.d⟩
theorem FrB.put {w W : World} {vo : Value} {t x : Int} {vn vu vt vr un uu ut ur : Value} (h : FrB w vo t x vn vu vt vr un uu ut ur W) (j : Nat) (u : Value) {un' uu' ut' ur' : Value} (hj : #[Value.int .i64 x, un, uu, ut, ur].setIfInBounds j u = #[.int .i64 x, un', uu', ut', ur']) :
 FrB w vo t x vn vu vt vr un' uu' ut' ur' (W.setCell ⟨w.heap.size + 1 + 1, j, none⟩ u) := by
 refine ⟨((qah W _ j u).block _ (qaa h.p) (by simp; omega)).trans h.p, ((qah W _ j u).block _ (qaa h.q) (by simp)).trans h.q, ?_⟩
 have := qaj h.d j u
 rw [hj] at this
 exact this
structure FrR (w : World) (r : Rc) (un : Value) (W : World) : Prop where
 names : OwnNms W w.heap.size un r.data.names
 below : Below w.heap.size w W
theorem FrR.next {w W W' : World} {r : Rc} {un : Value} (h : FrR w r un W) (hb : Below W.heap.size W W') : FrR w r un W' := ⟨h.names.below hb, h.below.trans (hb.mono h.below.size)⟩
theorem FrR.put {w W : World} {r : Rc} {un : Value} (h : FrR w r un W) {cs : Array Value} (hB : W.heap[w.heap.size + 1 + 1]? = some (.cells cs 101)) (j : Nat) (u : Value) : FrR w r un (W.setCell ⟨w.heap.size + 1 + 1, j, none⟩ u) :=
 ⟨h.names.keptB hB j u, h.below.setCell (p := ⟨w.heap.size + 1 + 1, j, none⟩) (by simp; omega) u⟩
structure SF (w : World) (r : Rc) (vo : Value) (t x : Int) (vn vu vt vr un uu ut ur : Value) (W : World) : Prop where
 p : W.heap[w.heap.size]? = some (.cells #[vo, .int .u32 t, .int .i64 x, vn, vu, vt, vr] 103)
 d : W.heap[w.heap.size + 1 + 1]? = some (.cells #[.int .i64 x, un, uu, ut, ur] 101)
 q : ∃ cs, W.heap[w.heap.size + 1]? = some (.cells cs 103) ∧ cs.size = 7
 row : DRow W w.heap.size un uu ut ur r.data
 below : Below w.heap.size w W
theorem SF.keep {w W W' : World} {r : Rc} {vo : Value} {t x : Int} {vn vu vt vr un uu ut ur : Value} (h : SF w r vo t x vn vu vt vr un uu ut ur W) (hb : Below W.heap.size W W') : SF w r vo t x vn vu vt vr un uu ut ur W' := by
 obtain ⟨cs, hq, hs⟩ := h.q
 exact ⟨(hb.block _ (qaa h.p)).trans h.p, (hb.block _ (qaa h.d)).trans h.d, ⟨cs, (hb.block _ (qaa hq)).trans hq, hs⟩, h.row.below hb, h.below.trans (hb.mono h.below.size)⟩
theorem SF.put {w W : World} {r : Rc} {vo : Value} {t x : Int} {vn vu vt vr un uu ut ur : Value} (h : SF w r vo t x vn vu vt vr un uu ut ur W) (j : Nat) (u : Value) : SF w r vo t x vn vu vt vr un uu ut ur (W.setCell ⟨w.heap.size + 1, j, none⟩ u) := by
 obtain ⟨cs, hq, hs⟩ := h.q
 exact ⟨((qah W _ j u).block _ (qaa h.p) (by simp)).trans h.p, ((qah W _ j u).block _ (qaa h.d) (by simp)).trans h.d, ⟨_, qaj hq j u, by simp [hs]⟩, h.row.keepB hq j u, h.below.setCell (p := ⟨w.heap.size + 1, j, none⟩) (by simp) u⟩
theorem arr7 {cs : Array Value} (h : cs.size = 7) : ∃ q0 q1 q2 q3 q4 q5 q6, cs = #[q0, q1, q2, q3, q4, q5, q6] := by
 obtain ⟨l⟩ := cs
 match l, h with
 | [q0, q1, q2, q3, q4, q5, q6], _ => exact ⟨q0, q1, q2, q3, q4, q5, q6, rfl⟩
def SS (w : World) (r : Rc) (vo : Value) (t x : Int) (vn vu vt vr un uu ut ur : Value) (W : World) : Prop :=
 W.cell? ⟨w.heap.size, 0, none⟩ = some vo ∧ W.cell? ⟨w.heap.size, 1, none⟩ = some (.int .u32 t) ∧ W.cell? ⟨w.heap.size + 1 + 1, 0, none⟩ = some (.int .i64 x) ∧ W.cell? ⟨w.heap.size + 1 + 1, 1, none⟩ = some un ∧ W.cell? ⟨w.heap.size + 1 + 1, 2, none⟩ = some uu ∧ W.cell? ⟨w.heap.size + 1 + 1, 3, none⟩ = some ut ∧ W.cell? ⟨w.heap.size + 1 + 1, 4, none⟩ = some ur ∧ SF w r vo t x vn vu vt vr un uu ut ur W
theorem SF.ss {w W : World} {r : Rc} {vo : Value} {t x : Int} {vn vu vt vr un uu ut ur : Value} (h : SF w r vo t x vn vu vt vr un uu ut ur W) : SS w r vo t x vn vu vt vr un uu ut ur W :=
 ⟨kcell h.p 0 _ rfl, kcell h.p 1 _ rfl, kcell h.d 0 _ rfl, kcell h.d 1 _ rfl, kcell h.d 2 _ rfl, kcell h.d 3 _ rfl, kcell h.d 4 _ rfl, h⟩
theorem SS.sf {w W : World} {r : Rc} {vo : Value} {t x : Int} {vn vu vt vr un uu ut ur : Value} (h : SS w r vo t x vn vu vt vr un uu ut ur W) : SF w r vo t x vn vu vt vr un uu ut ur W := h.2.2.2.2.2.2.2
theorem qkH (cs : List Value) (r : Rc) (w : World) (hA : RcAt w cs r) (hk : RcOK r) :
 Calls Tryz.prog 116 #[.agg cs.toArray] w (qkZ w r) := by
 obtain ⟨vo, vn, vu, vt, vr, rfl, a1, a2⟩ := hA
 obtain ⟨un, uu, ut, ur, e, n1, n2, n3, n4⟩ := a2
 have e' : #[Value.int .i64 r.data.ty, vn, vu, vt, vr] = #[Value.int .i64 r.data.ty, un, uu, ut, ur] := by injection e
 simp only [Array.mk.injEq, List.cons.injEq, and_true, true_and] at e'
 obtain ⟨rfl, rfl, rfl, rfl⟩ := e'
 clear e
 have HA := qH0 a1
 have HU := qH0 n2
 have HTX := qH0 n3
 have HRW := qH0 n4
 have HNMS := qH0 n1
 obtain ⟨vs, s1, sl, s2⟩ := n1
 obtain ⟨an, cn, rfl, x1⟩ := id s1
 obtain ⟨ao, co, rfl, -⟩ := nmAt_sl.1 a1
 obtain ⟨au, cu, rfl, -⟩ := n2
 obtain ⟨ax, cx, rfl, -⟩ := nmAt_sl.1 n3
 obtain ⟨ar, cr, rfl, -⟩ := n4
 obtain ⟨no, hno⟩ : ∃ m, (List.map strV r.owner).length = m := ⟨_, rfl⟩
 obtain ⟨nu, hnu⟩ : ∃ m, (List.map u32V r.data.nums).length = m := ⟨_, rfl⟩
 obtain ⟨nx, hnx⟩ : ∃ m, (List.map strV r.data.texts).length = m := ⟨_, rfl⟩
 obtain ⟨nr, hnr⟩ : ∃ m, (List.map bv r.data.raw).length = m := ⟨_, rfl⟩
 obtain ⟨n, hn⟩ : ∃ n, vs.length = n := ⟨_, rfl⟩
 obtain ⟨x, hx⟩ : ∃ x, r.data.ty = x := ⟨_, rfl⟩
 obtain ⟨t, ht⟩ : ∃ t, (r.ttl : Int) = t := ⟨_, rfl⟩
 have hnb : n ≤ 1048576 := by have := hk.2.2.2.1; omega
 have hcl : ∀ W, Below w.heap.size w W → ∀ j (hj : j < vs.length), ∃ b off, an = some ⟨b, off, none⟩ ∧ b < w.heap.size ∧ W.cell? ⟨b, off + j, none⟩ = some vs[j] := fun W hb j hj => s1.cell hb j hj
 have s2' : ∀ j (h1 : j < vs.length) (h2 : j < r.data.names.length), NmAt w vs[j] r.data.names[j] := fun j h1 _ => s2 j h1
 have HS2 := qH0 s2'
 have HK := qH0 hk; have HN := qH0 hn; have HX := qH0 hx; have HT := qH0 ht; have HSL := qH0 sl
 rw [hno] at HA ⊢
 rw [hnu] at HU ⊢
 rw [hnx] at HTX ⊢
 rw [hnr] at HRW ⊢
 rw [hn] at HNMS s1 ⊢
 rw [hx, ht]
 have hncn : n ≤ cn := by omega
 have HCL := qH0 hcl
 clear a1 s2 s2' hk hn hx ht hno hnu hnx hnr sl x1 hcl s1
 obtain ⟨W3, hW3⟩ : ∃ W3, ((w.alloc (.cells #[.slice ao no co, .int .u32 t, .int .i64 x, .slice an n cn, .slice au nu cu, .slice ax nx cx, .slice ar nr cr] 103)).alloc (.cells #[.slice none 0 0, .int .u32 0, .int .i64 0, .slice none 0 0, .slice none 0 0, .slice none 0 0, .slice none 0 0] 103)).alloc (.cells #[.int .i64 x, .slice an n cn, .slice au nu cu, .slice ax nx cx, .slice ar nr cr] 101) = W3 := ⟨_, rfl⟩
 have HF0 : Hid (FrB w (.slice ao no co) t x (.slice an n cn) (.slice au nu cu) (.slice ax nx cx) (.slice ar nr cr) (.slice an n cn) (.slice au nu cu) (.slice ax nx cx) (.slice ar nr cr) W3) := by
  rw [← hW3]
  refine qH0 ⟨?_, ?_, ?_⟩
  ·exact (Below.heap_alloc _ _ _ (by simp; omega)).trans ((Below.heap_alloc _ _ _ (by simp)).trans (knew w _))
  ·have := knew (w.alloc (.cells #[.slice ao no co, .int .u32 t, .int .i64 x, .slice an n cn, .slice au nu cu, .slice ax nx cx, .slice ar nr cr] 103)) (.cells #[.slice none 0 0, .int .u32 0, .int .i64 0, .slice none 0 0, .slice none 0 0, .slice none 0 0, .slice none 0 0] 103)
   rw [World.size_alloc] at this
   exact (Below.heap_alloc _ _ _ (by simp)).trans this
  ·have := knew ((w.alloc (.cells #[.slice ao no co, .int .u32 t, .int .i64 x, .slice an n cn, .slice au nu cu, .slice ax nx cx, .slice ar nr cr] 103)).alloc (.cells #[.slice none 0 0, .int .u32 0, .int .i64 0, .slice none 0 0, .slice none 0 0, .slice none 0 0, .slice none 0 0] 103)) (.cells #[.int .i64 x, .slice an n cn, .slice au nu cu, .slice ax nx cx, .slice ar nr cr] 101)
   rw [World.size_alloc, World.size_alloc] at this
   exact this
 have HB0 : Hid (Below w.heap.size w W3) := by rw [← hW3]; exact qH0 ((((Below.refl _ w).alloc (qN0) _).alloc (by simp) _).alloc (by simp; omega) _)
 have HW3 := qH0 hW3
 clear hW3
 go_enter Tryz.func116, Tryz.ntmps116
 go_wp2
 rw [HW3.out]
 go_loopw [4, 12] (fun v4 vi wr => ∃ (k : Nat) (ga : Option Addr) (gc : Nat), v4 = .slice ga k gc ∧ vi = .int .i64 k ∧ k ≤ n ∧ Hid (OwnNms wr w.heap.size (.slice ga k gc) (r.data.names.take k)) ∧ Hid (FrB w (.slice ao no co) t x (.slice an n cn) (.slice au nu cu) (.slice ax nx cx) (.slice ar nr cr) (.slice an n cn) (.slice au nu cu) (.slice ax nx cx) (.slice ar nr cr) wr) ∧ Hid (Below w.heap.size w wr)) (fun _ vi _ => n - (intOf vi).toNat)
 case atStart => exact ⟨0, none, 0, rfl, rfl, Nat.zero_le _, qH0 (OwnNms.nil _ _), HF0, HB0⟩
 case round =>
  obtain ⟨k, ga, gc, rfl, rfl, hk, HO, HF, HB⟩ := hrel
  by_cases hlt : k < n
  ·have hltz : (k : Int) < (n : Int) := by omega
   have hk1 : k < vs.length := by have := HN.out; omega
   have hk2 : k < r.data.names.length := by have := HSL.out; omega
   obtain ⟨b, off, rfl, hb, hcell⟩ := HCL.out wr HB.out k hk1
   have hnm := HS2.out k hk1 hk2
   have hnmr := hnm.below (W' := wr) HB.out
   have hok : NmOK r.data.names[k] := HK.out.2.2.2.2.1 _ (List.getElem_mem hk2)
   obtain ⟨av, cv, ev, -⟩ := nmAt_sl.1 hnm
   rw [ev] at hcell hnmr
   obtain ⟨m, hm⟩ : ∃ m, (List.map strV r.data.names[k]).length = m := ⟨_, rfl⟩
   rw [hm] at hcell hnmr
   have hcl := fun W (hb : Below wr.heap.size wr W) => qaZ (.slice av m cv) r.data.names[k] W (hnmr.below hb).1 (hnmr.below hb).2 (by have := hok.1; omega)
   have hc0 := hcl wr (qL0)
   have HK2 := qH0 hk2
   have HTK := qH0 (show r.data.names.take (k + 1) = r.data.names.take k ++ [r.data.names[k]] from List.take_succ_eq_append_getElem hk2)
   generalize r.data.names[k] = nm at hc0 HTK
   clear hcl hnm hnmr hok ev hm hk1 hk2
   go_wp2_with fail
   refine hc0.mono ?_
   rintro e w2 ⟨v', rfl, hown, hb2⟩
   have HF2 := qH0 (HF.out.below hb2)
   have HB2 := qH0 (qB0 HB.out hb2)
   obtain ⟨a2, c2, rfl⟩ := hown.shape
   obtain ⟨m2, hm2⟩ : ∃ m, nm.length = m := ⟨_, rfl⟩
   obtain ⟨vs', hv1, hv2, hv3⟩ := HO.out.below hb2
   have hvk : vs'.length = k := by rw [hv2, List.length_take]; have := HK2.out; omega
   have hown' : OwnG 9 strV w2 w.heap.size (slEnc (a2, m2, c2)) nm := by rw [← hm2]; exact hown.weaken HB.out.size
   have HV := qH0 (And.intro hv2 hv3)
   have HOWN := qH0 hown'
   have HC := qH0 (show [Value.slice a2 m2 c2] = [((a2, m2, c2) : SlV)].map slEnc from rfl)
   have hz2 := HB2.out.size
   have HVK := qH0 hvk
   rw [hm2]
   clear hv2 hv3 hown hown' hm2 hb2 hc0 hcell hvk
   go_wp2_with (at_builtin; refine qcM w2 rfl (.tmp 16) (.tmp 19) qgx rfl qgB w.heap.size (.slice ga k gc) vs' rfl hv1 [.slice a2 m2 c2] [((a2, m2, c2) : SlV)] HC.out 1 1 rfl rfl hz2 (by have := HVK.out; unfold maxLen; simp; omega) (by have := HVK.out; simp; omega) ?_; intro v3 w3 hown3 hg3)
   have HO3 : Hid (OwnNms w3 w.heap.size v3 (r.data.names.take (k + 1))) := by
    rw [HTK.out]
    exact qH0 (OwnNms.snoc hv1 HV.out.1 HV.out.2 HOWN.out hown3 hg3)
   have HF3 := qH0 (HF2.out.grown hv1 (by decide) (by decide) hg3)
   have HB3 := qH0 (HB2.out.grown hg3 hz2 hv1.base_le)
   obtain ⟨a3, c3, rfl⟩ := hown3.shape
   have hl3 : (vs' ++ [((a2, m2, c2) : SlV)]).length = k + 1 := by rw [List.length_append, HVK.out]; rfl
   rw [hl3] at HO3
   clear hown3 hg3 hv1
   go_roundw
   case measure => simp [intOf]; omega
   case rel => exact ⟨k + 1, a3, c3, by rw [hl3], by go_num, by omega, HO3, HF3, HB3⟩
  ·obtain rfl : k = n := by omega
   have HO1 : Hid (OwnNms wr w.heap.size (.slice ga k gc) r.data.names) := by
    have h := HO.out
    rw [List.take_of_length_le (by have := HN.out; have := HSL.out; omega)] at h
    exact qH0 h
   have HFR1 : Hid (FrR w r (.slice ga k gc) (wr.setCell ⟨w.heap.size + 1 + 1, 1, none⟩ (.slice ga k gc))) := qH0 (FrR.put ⟨HO1.out, HB.out⟩ HF.out.d 1 _)
   have HF1 : Hid (FrB w (.slice ao no co) t x (.slice an k cn) (.slice au nu cu) (.slice ax nx cx) (.slice ar nr cr) (.slice ga k gc) (.slice au nu cu) (.slice ax nx cx) (.slice ar nr cr) (wr.setCell ⟨w.heap.size + 1 + 1, 1, none⟩ (.slice ga k gc))) := qH0 (HF.out.put 1 _ rfl)
   have d1 := kcell HF.out.d 1 _ rfl
   have f1 := qab HF.out.d 1
   have d2 := kcell HF.out.d 2 _ rfl
   have d2' := kcell HF1.out.d 2 _ rfl
   have hcu := qkE (.slice au nu cu) ((r.data.nums.map u32V).map fun x => [x]) (wr.setCell ⟨w.heap.size + 1 + 1, 1, none⟩ (.slice ga k gc)) (qf1 (HU.out.below HFR1.out.below)) (by simp) (by simp [u32V]; try (intros; rfl)) (by simp; have := HK.out.2.2.2.2.2.1; omega)
   clear HO HO1 HB HCL HS2
   go_wp2_with fail
   refine hcu.mono ?_
   rintro e w4 ⟨v4, rfl, ho4, hb4⟩
   obtain ⟨m4, hm4⟩ : ∃ m, r.data.nums.length = m := ⟨_, rfl⟩
   have ho4' : OwnG 35 u32V w4 w.heap.size v4 r.data.nums := by
    rw [List.map_map] at ho4
    exact (qei ho4).weaken HFR1.out.below.size
   obtain ⟨a4, c4, rfl⟩ := ho4'.shape
   have hf4 := HF1.out.below hb4
   have HFRA := qH0 ((HFR1.out.next hb4).put hf4.d 2 (.slice a4 r.data.nums.length c4))
   have HFA := qH0 (hf4.put 2 (.slice a4 r.data.nums.length c4) rfl)
   have HNA := qH0 (ho4'.keptB hf4.d (by decide) 2 (.slice a4 r.data.nums.length c4))
   have d3 := kcell hf4.d 2 _ rfl
   have f3 := qab hf4.d 2
   have d4 := kcell HFA.out.d 3 _ rfl
   have hcx := qkU (.slice ax nx cx) ((r.data.texts.map strV).map fun x => [x]) _ (qf1 (nmAt_sl.1 (HTX.out.below HFRA.out.below))) (by simp) (by simp [strV]; try (intros; rfl)) (by simp; have := HK.out.2.2.2.2.2.2.2.1.1; omega)
   rw [hm4] at HFRA HFA HNA hcx d4 ⊢
   clear ho4 ho4' hf4 hb4 d1 f1 d2 d2' HFR1 HF1 HF hcu
   go_wp2_with fail
   refine hcx.mono ?_
   rintro e w5 ⟨v5, rfl, ho5, hb5⟩
   obtain ⟨m5, hm5⟩ : ∃ m, r.data.texts.length = m := ⟨_, rfl⟩
   have ho5' : OwnG 9 strV w5 w.heap.size v5 r.data.texts := by
    rw [List.map_map] at ho5
    exact (qei ho5).weaken HFRA.out.below.size
   obtain ⟨a5, c5, rfl⟩ := ho5'.shape
   have hf5 := HFA.out.below hb5
   have HFRB := qH0 ((HFRA.out.next hb5).put hf5.d 3 (.slice a5 r.data.texts.length c5))
   have HFB := qH0 (hf5.put 3 (.slice a5 r.data.texts.length c5) rfl)
   have HNB := qH0 ((HNA.out.below hb5).keptB hf5.d (by decide) 3 (.slice a5 r.data.texts.length c5))
   have HXB := qH0 (ho5'.keptB hf5.d (by decide) 3 (.slice a5 r.data.texts.length c5))
   have d5 := kcell hf5.d 3 _ rfl
   have f5 := qab hf5.d 3
   have d6 := kcell HFB.out.d 4 _ rfl
   have hcr := qjY (.slice ar nr cr) ((r.data.raw.map bv).map fun x => [x]) _ (qf1 (HRW.out.below HFRB.out.below)) (by simp) (by simp [bv]; try (intros; rfl)) (by simp; have := HK.out.2.2.2.2.2.2.2.2; omega)
   rw [hm5] at HFRB HFB HNB HXB hcr d6 ⊢
   clear ho5 ho5' hf5 hb5 d3 f3 d4 HFRA HFA HNA hcx
   go_wp2_with fail
   refine hcr.mono ?_
   rintro e w6 ⟨v6, rfl, ho6, hb6⟩
   obtain ⟨m6, hm6⟩ : ∃ m, r.data.raw.length = m := ⟨_, rfl⟩
   have ho6' : OwnG 5 bv w6 w.heap.size v6 r.data.raw := by
    rw [List.map_map] at ho6
    exact (qei ho6).weaken HFRB.out.below.size
   obtain ⟨a6, c6, rfl⟩ := ho6'.shape
   have hf6 := HFB.out.below hb6
   have HFRC := qH0 ((HFRB.out.next hb6).put hf6.d 4 (.slice a6 r.data.raw.length c6))
   have HFC := qH0 (hf6.put 4 (.slice a6 r.data.raw.length c6) rfl)
   have HNC := qH0 ((HNB.out.below hb6).keptB hf6.d (by decide) 4 (.slice a6 r.data.raw.length c6))
   have HXC := qH0 ((HXB.out.below hb6).keptB hf6.d (by decide) 4 (.slice a6 r.data.raw.length c6))
   have HRC := qH0 (ho6'.keptB hf6.d (by decide) 4 (.slice a6 r.data.raw.length c6))
   have d7 := kcell hf6.d 4 _ rfl
   have f7 := qab hf6.d 4
   rw [hm6] at HFRC HFC HNC HXC HRC ⊢
   clear ho6 ho6' hf6 hb6 d5 f5 d6 HFRB HFB HNB HXB hcr
   go_wp2_with fail
   have hSF0 : SF w r (.slice ao no co) t x (.slice an k cn) (.slice au nu cu) (.slice ax nx cx) (.slice ar nr cr) (.slice ga k gc) (.slice a4 m4 c4) (.slice a5 m5 c5) (.slice a6 m6 c6) (w6.setCell ⟨w.heap.size + 1 + 1, 4, none⟩ (.slice a6 m6 c6)) :=
    ⟨HFC.out.p, HFC.out.d, ⟨_, HFC.out.q, rfl⟩, ⟨HFRC.out.names, HNC.out, HXC.out, HRC.out⟩, HFRC.out.below⟩
   generalize w6.setCell ⟨w.heap.size + 1 + 1, 4, none⟩ (.slice a6 m6 c6) = wB at hSF0 ⊢
   have hS0 := hSF0.ss
   have HCN := qH0 (fun (W : World) (h : SS w r (.slice ao no co) t x (.slice an k cn) (.slice au nu cu) (.slice ax nx cx) (.slice ar nr cr) (.slice ga k gc) (.slice a4 m4 c4) (.slice a5 m5 c5) (.slice a6 m6 c6) W) => qaZ (.slice ao no co) r.owner W (HA.out.below h.sf.below).1 (HA.out.below h.sf.below).2 (by have := HK.out.1.1; omega))
   have KS := qH0 (fun (W W' : World) (h : SS w r (.slice ao no co) t x (.slice an k cn) (.slice au nu cu) (.slice ax nx cx) (.slice ar nr cr) (.slice ga k gc) (.slice a4 m4 c4) (.slice a5 m5 c5) (.slice a6 m6 c6) W) (hb : Below W.heap.size W W') => (h.sf.keep hb).ss)
   have KP := qH0 (fun (W : World) (y0 y1 y2 y3 y4 y5 y6 : Value) (h : SS w r (.slice ao no co) t x (.slice an k cn) (.slice au nu cu) (.slice ax nx cx) (.slice ar nr cr) (.slice ga k gc) (.slice a4 m4 c4) (.slice a5 m5 c5) (.slice a6 m6 c6) W) => (((((((h.sf.put 0 y0).put 1 y1).put 2 y2).put 3 y3).put 4 y4).put 5 y5).put 6 y6).ss)
   have KD := qH0 (fun (W : World) (h : SS w r (.slice ao no co) t x (.slice an k cn) (.slice au nu cu) (.slice ax nx cx) (.slice ar nr cr) (.slice ga k gc) (.slice a4 m4 c4) (.slice a5 m5 c5) (.slice a6 m6 c6) W) => KS.out W W.drew h (qaz (qL0) 1))
   unfold SS at hS0 HCN KS KP KD
   clear hSF0 d7 f7 HFRC HFC HNC HXC HRC HU HTX HRW HNMS
   go_region_held3 (fun W => W.cell? ⟨w.heap.size, 0, none⟩ = some (.slice ao no co) ∧ W.cell? ⟨w.heap.size, 1, none⟩ = some (.int .u32 t) ∧ W.cell? ⟨w.heap.size + 1 + 1, 0, none⟩ = some (.int .i64 x) ∧ W.cell? ⟨w.heap.size + 1 + 1, 1, none⟩ = some (.slice ga k gc) ∧ W.cell? ⟨w.heap.size + 1 + 1, 2, none⟩ = some (.slice a4 m4 c4) ∧ W.cell? ⟨w.heap.size + 1 + 1, 3, none⟩ = some (.slice a5 m5 c5) ∧ W.cell? ⟨w.heap.size + 1 + 1, 4, none⟩ = some (.slice a6 m6 c6) ∧ SF w r (.slice ao no co) t x (.slice an k cn) (.slice au nu cu) (.slice ax nx cx) (.slice ar nr cr) (.slice ga k gc) (.slice a4 m4 c4) (.slice a5 m5 c5) (.slice a6 m6 c6) W)
    (first | with_reducible assumption | (with_reducible exact KD.out _ (by with_reducible assumption)) | (with_reducible exact KP.out _ _ _ _ _ _ _ _ (by with_reducible assumption)))
    (first | ((with_reducible refine (HCN.out _ (by with_reducible assumption)).mono ?_); rintro e w7 ⟨v7, rfl, ho7, hb7⟩; obtain ⟨a7, c7, rfl⟩ := ho7.shape; have hS2 := KS.out _ _ (by assumption) hb7; have hq7 := hS2.2.2.2.2.2.2.2.q; obtain ⟨cs7, hq7, hs7⟩ := hq7; obtain ⟨q0, q1, q2, q3, q4, q5, q6, rfl⟩ := arr7 hs7; have fz0 := qab hq7 0; have cl0 := kcell hq7 0 _ rfl; have fz1 := qab hq7 1; have cl1 := kcell hq7 1 _ rfl; have fz2 := qab hq7 2; have cl2 := kcell hq7 2 _ rfl; have fz3 := qab hq7 3; have cl3 := kcell hq7 3 _ rfl; have fz4 := qab hq7 4; have cl4 := kcell hq7 4 _ rfl; have fz5 := qab hq7 5; have cl5 := kcell hq7 5 _ rfl; have fz6 := qab hq7 6; have cl6 := kcell hq7 6 _ rfl))
   go_wp2_with fail
   have HS7 := hS2.2.2.2.2.2.2.2
   have hsz : w.heap.size ≤ wB.heap.size := hS0.2.2.2.2.2.2.2.below.size
   have hown7 : OwnG 9 strV w7 w.heap.size (.slice a7 r.owner.length c7) r.owner := ho7.weaken hsz
   clear ho7
   have hb_0 := qaj hq7 0 (.slice a7 r.owner.length c7)
   have ho_0 := hown7.keptB hq7 (by decide) 0 (.slice a7 r.owner.length c7)
   have hb_1 := qaj hb_0 1 (.int .u32 t)
   have ho_1 := ho_0.keptB hb_0 (by decide) 1 (.int .u32 t)
   have hb_2 := qaj hb_1 2 (.int .i64 x)
   have ho_2 := ho_1.keptB hb_1 (by decide) 2 (.int .i64 x)
   have hb_3 := qaj hb_2 3 (.slice ga k gc)
   have ho_3 := ho_2.keptB hb_2 (by decide) 3 (.slice ga k gc)
   have hb_4 := qaj hb_3 4 (.slice a4 m4 c4)
   have ho_4 := ho_3.keptB hb_3 (by decide) 4 (.slice a4 m4 c4)
   have hb_5 := qaj hb_4 5 (.slice a5 m5 c5)
   have ho_5 := ho_4.keptB hb_4 (by decide) 5 (.slice a5 m5 c5)
   have hb_6 := qaj hb_5 6 (.slice a6 m6 c6)
   have ho_6 := ho_5.keptB hb_5 (by decide) 6 (.slice a6 m6 c6)
   have hsN := (((((((HS7.put 0 (.slice a7 r.owner.length c7)).put 1 (.int .u32 t)).put 2 (.int .i64 x)).put 3 (.slice ga k gc)).put 4 (.slice a4 m4 c4)).put 5 (.slice a5 m5 c5)).put 6 (.slice a6 m6 c6))
   have hqN : (_ : World).heap[w.heap.size + 1]? = some (.cells #[.slice a7 r.owner.length c7, .int .u32 t, .int .i64 x, .slice ga k gc, .slice a4 m4 c4, .slice a5 m5 c5, .slice a6 m6 c6] 103) := hb_6
   refine bodyPost_ret (qiu rfl _ _ rfl hqN) rfl ?_
   exact ⟨[.slice a7 r.owner.length c7, .int .u32 t, .int .i64 x, .slice ga k gc, .slice a4 m4 c4, .slice a5 m5 c5, .slice a6 m6 c6], rfl, ⟨_, _, _, _, _, by rw [HT.out, HX.out], ho_6, hsN.row⟩, hsN.below⟩
theorem qf3 {S T : TypeId} {k bytes : Nat} {F : Fence} {n : Nat} {ops : Array Oper} {rest : List Oper} {o : Oper} {a : Act} {Q : Exit → Act → World → Prop} (W : World) (hgd : o.guard = none) (s x : Operand) (hE : ElemK k T S bytes) (hk0 : 0 < k)
 (ho : o.op = .call { callee := .builtin .append, args := #[s, x], argTypes := #[S, S] })
 (base : Nat) (v : Value) (xs : List (List Value)) (hs : a.eval s = v) (hown : OwnC k T W base v xs)
 (cs : List Value) (hcl : cs.length = k) (hc1 : ∀ u ∈ cs, u.oneCell' = true) (c : Nat) (hx : a.eval x = .slice (some ⟨W.heap.size, 0, none⟩) 1 c)
 (hbase : base ≤ W.heap.size) (hk : xs.length + 1 ≤ maxLen) (hk2 : (xs.length + 1) * bytes ≤ 140737488355328)
 (h : ∀ v' w', OwnC k T w' base v' (xs ++ [cs]) → W.grownBy w' v.ownBlock → wpListIn F n Tryz.prog ops Q rest (a.put o.dst v') w') :
 wpListIn F n Tryz.prog ops Q (o :: rest) a (W.alloc (.cells cs.toArray T)) := by
 obtain ⟨ht, i, z, hi, hz, hz1, hz2, hzc⟩ := hE
 refine wpListIn_append_own _ hgd s x S ho base T i z k bytes ht hi hz hz1 hz2 hzc hk0 v xs.length (xs.flatMap fun cs => cs) hs (hown.alloc _) ⟨W.heap.size, 0, none⟩ 1 c cs hx (by omega) (qbc W _ _) hc1 hk hk2 (by simp; omega) ?_
 intro v' w' h1 h2 _
 refine h v' w' ?_ (qaS h2)
 unfold OwnC OwnK
 rw [List.length_append, List.flatMap_append]
 have e : [cs].flatMap (fun cs => cs) = cs := by simp
 rw [e]
 exact h1
theorem qmb (a : Option Addr) (n c : Nat) (w : World) :
 Calls Tryz.prog 112 #[.slice a n c, .func (.func 115) #[] #[]] w fun e w' => e = .returned (.func (.func 149) #[] #[.pointer (some ⟨w.heap.size, 0, none⟩), .pointer (some ⟨w.heap.size + 1, 0, none⟩)]) ∧ w' = (w.alloc (.cells #[.slice a n c] 22)).alloc (.cells #[.func (.func 115) #[] #[]] 172) := by
 go_enter Tryz.func112, Tryz.ntmps112
 go_wp2
 go_ret
 exact ⟨rfl, rfl⟩
structure KpX (n0 B : Nat) (W W' : World) : Prop where
 os : W'.os = W.os
 tape : W'.tape = W.tape
 output : W'.output = W.output
 size : W.heap.size ≤ W'.heap.size
 block : ∀ k, k < n0 → k ≠ B → W'.heap[k]? = W.heap[k]?
theorem KpX.refl (n0 B : Nat) (W : World) : KpX n0 B W W := ⟨rfl, rfl, rfl, qN0, fun _ _ _ => rfl⟩
theorem KpX.trans {n0 B : Nat} {W W' W'' : World} (h : KpX n0 B W W') (k : KpX n0 B W' W'') : KpX n0 B W W'' :=
 ⟨k.os.trans h.os, k.tape.trans h.tape, k.output.trans h.output, Nat.le_trans h.size k.size, fun i a b => (k.block i a b).trans (h.block i a b)⟩
theorem KpX.grown {n0 B : Nat} {W W' : World} {row : Option Nat} (hn : n0 ≤ W.heap.size) (hg : W.grownBy W' row) (hr : ∀ r, row = some r → n0 ≤ r ∨ r = B) : KpX n0 B W W' :=
 ⟨hg.os, hg.tape, hg.output, hg.size, fun i a b => hg.block i (by omega) (fun e => by rcases hr i e.symm with h | h <;> omega)⟩
theorem qby {W W' : World} (hb : Below W.heap.size W W') : W.grownBy W' none := ⟨hb.os, hb.tape, hb.output, hb.size, fun k hk _ => hb.block k hk⟩
theorem KpX.of_below {n0 B : Nat} {W W' : World} (hn : n0 ≤ W.heap.size) (hb : Below W.heap.size W W') : KpX n0 B W W' := KpX.grown hn (qby hb) (fun r e => by cases e)
theorem KpX.below {n0 B m : Nat} {W W' : World} (h : KpX n0 B W W') (h1 : m ≤ B) (h2 : m ≤ n0) : Below m W W' := ⟨h.os, h.tape, h.output, h.size, fun k hk => h.block k (by omega) (by omega)⟩
theorem OwnG.keptO {α : Type} {T : TypeId} {enc : α → Value} {W W' : World} {row : Option Nat} {base : Nat} {v : Value} {xs : List α} (h : OwnG T enc W base v xs) (hg : W.grownBy W' row) (hr : ∀ r, row = some r → ∃ o : Obj, W.heap[r]? = some o ∧ o.isCells = false) : OwnG T enc W' base v xs := by
 cases row with
 | none => exact h.kept hg (by cases v.ownBlock <;> simp)
 | some r =>
  obtain ⟨o, h1, h2⟩ := hr r rfl
  exact h.kept hg (.inr fun e => h.ne_of h1 h2 e.symm)
theorem FrAt.keptO {W W' : World} {row : Option Nat} {base : Nat} {cs : List Value} {r : Rc} (h : FrAt W base cs r) (hg : W.grownBy W' row) (hr : ∀ r, row = some r → ∃ o : Obj, W.heap[r]? = some o ∧ o.isCells = false) : FrAt W' base cs r := by
 obtain ⟨vo, vn, vu, vt, vr, e, h1, ⟨⟨vs, k1, k2, k3⟩, i1, i2, i3⟩⟩ := h
 exact ⟨vo, vn, vu, vt, vr, e, h1.keptO hg hr, ⟨⟨vs, k1.keptO hg hr, k2, fun i a b => (k3 i a b).keptO hg hr⟩, i1.keptO hg hr, i2.keptO hg hr, i3.keptO hg hr⟩⟩
theorem OwnC.blk {k : Nat} {T : TypeId} {W : World} {base : Nat} {v : Value} {xss : List (List Value)} (h : OwnC k T W base v xss) : ∀ b, v.ownBlock = some b → ∃ cs, W.heap[b]? = some (.cells cs T) := by
 intro b e
 rcases h.2 with ⟨rfl, _⟩ | ⟨g, cap, cur, rfl, _, hg, _⟩
 ·cases e
 ·simp only [Value.ownBlock] at e
  cases e
  exact ⟨_, hg⟩
theorem OwnC.keptO {k : Nat} {T : TypeId} {W W' : World} {row : Option Nat} {base : Nat} {v : Value} {xss : List (List Value)} (h : OwnC k T W base v xss) (hg : W.grownBy W' row) (hr : ∀ r, row = some r → ∃ o : Obj, W.heap[r]? = some o ∧ o.isCells = false) : OwnC k T W' base v xss := by
 refine OwnK.kept h hg ?_
 cases row with
 | none => cases v.ownBlock <;> simp
 | some r =>
  obtain ⟨o, h1, h2⟩ := hr r rfl
  right
  intro e
  obtain ⟨cs, h3⟩ := h.blk r e
  rw [h1] at h3; cases h3; cases h2
def OutAt (n0 B : Nat) (rs : List Rc) (xs : List (Nat × Nat)) (W : World) : Prop :=
 ∃ v css, Boxed W B 22 v ∧ OwnC 7 103 W n0 v css ∧ css.length = xs.length ∧ ∀ j (h1 : j < css.length) (h2 : j < xs.length), FrAt W n0 css[j] (runR rs xs[j])
def CanI (n0 B : Nat) (W0 : World) (rs : List Rc) {n : Nat} (pre : List (Seg n)) (W : World) : Prop := KpX n0 B W0 W ∧ OutAt n0 B rs (pre.map (·.1)) W
theorem OutAt.keptO {n0 B : Nat} {rs : List Rc} {xs : List (Nat × Nat)} {W W' : World} {row : Option Nat} (hB : B < n0) (h : OutAt n0 B rs xs W) (hg : W.grownBy W' row) (hr : ∀ r, row = some r → n0 ≤ r ∧ ∃ o : Obj, W.heap[r]? = some o ∧ o.isCells = false) : OutAt n0 B rs xs W' := by
 obtain ⟨v, css, h1, h2, h3, h4⟩ := h
 exact ⟨v, css, h1.kept hg (fun e => by have := (hr B e.symm).1; omega), h2.keptO hg (fun r e => (hr r e).2), h3, fun j a b => (h4 j a b).keptO hg (fun r e => (hr r e).2)⟩
theorem OutAt.below {n0 B : Nat} {rs : List Rc} {xs : List (Nat × Nat)} {W W' : World} (hB : B < n0) (h : OutAt n0 B rs xs W) (hb : Below W.heap.size W W') : OutAt n0 B rs xs W' := h.keptO hB (qby hb) (fun r e => by cases e)
theorem qmd {n0 B : Nat} {W0 : World} {rs : List Rc} {n : Nat} (hB : B < n0) (hn : n0 ≤ W0.heap.size) : OwnFrom n0 (CanI (n := n) n0 B W0 rs) := by
 rintro pre W W' row ⟨h1, h2⟩ hg hr
 exact ⟨h1.trans (KpX.grown (Nat.le_trans hn h1.size) hg (fun r e => .inl (hr r e).1)), h2.keptO hB hg hr⟩
theorem OutAt.snoc {n0 B : Nat} {rs : List Rc} {xs : List (Nat × Nat)} {x : Nat × Nat} {W W' : World} {v v' : Value} {css : List (List Value)} {cs : List Value} (hB : Boxed W B 22 v) (ho : OwnC 7 103 W n0 v css) (hl : css.length = xs.length) (hf : ∀ j (h1 : j < css.length) (h2 : j < xs.length), FrAt W n0 css[j] (runR rs xs[j]))
 (hc : FrAt W n0 cs (runR rs x)) (ho' : OwnC 7 103 W' n0 v' (css ++ [cs])) (hg : W.grownBy W' v.ownBlock) : OutAt n0 B rs (xs ++ [x]) (W'.setCell ⟨B, 0, none⟩ v') := by
 have hne : some B ≠ v.ownBlock := ho.ne_block hB (by decide)
 have hB' : Boxed W' B 22 v := hB.kept hg hne
 refine ⟨v', css ++ [cs], hB'.set v', OwnK.keptB ho' hB' (by decide) 0 v', by simp [hl], fun j a b => ?_⟩
 have hk : ∀ {cs : List Value} {r : Rc}, FrAt W n0 cs r → FrAt (W'.setCell ⟨B, 0, none⟩ v') n0 cs r := by
  intro cs r h
  have h' := h.grown ho hg
  obtain ⟨vo, vn, vu, vt, vr, e, h1, ⟨⟨vs, k1, k2, k3⟩, i1, i2, i3⟩⟩ := h'
  exact ⟨vo, vn, vu, vt, vr, e, h1.keptB hB' (by decide) 0 v', ⟨⟨vs, k1.keptB hB' (by decide) 0 v', k2, fun i a b => (k3 i a b).keptB hB' (by decide) 0 v'⟩, i1.keptB hB' (by decide) 0 v', i2.keptB hB' (by decide) 0 v', i3.keptB hB' (by decide) 0 v'⟩⟩
 by_cases hj : j < css.length
 ·rw [List.getElem_append_left hj, List.getElem_append_left (by omega)]
  exact hk (hf j hj (by omega))
 ·obtain rfl : j = css.length := by simp at a; omega
  have e1 : (css ++ [cs])[css.length]'a = cs := by simp
  have e2 : (xs ++ [x])[css.length]'b = x := by simp [hl]
  rw [e1, e2]
  exact hk hc
theorem SlK.cut {W : World} {g off n c : Nat} {css : List (List Value)} (hk : ∀ cs ∈ css, cs.length = 7) (hn : css.length = n) (hnc : n ≤ c) (hg : g < W.heap.size)
 (hc : ∀ j u, css.flatten[j]? = some u → W.cell? ⟨g, off + j, none⟩ = some u) (s e : Nat) (h1 : s < e) (h2 : e ≤ n) :
 SlK W (.slice (some ⟨g, off + s * 7, none⟩) (e - s) (c - s)) ((css.drop s).take (e - s)) := by
 have hl : ((css.drop s).take (e - s)).length = e - s := by rw [List.length_take, List.length_drop]; omega
 refine ⟨some ⟨g, off + s * 7, none⟩, c - s, by rw [hl], by rw [hl]; omega, (fun e => by cases e), .inr ⟨g, off + s * 7, rfl, hg, fun j u hj => ?_⟩⟩
 have hsplit : css.flatten = (css.take s).flatten ++ (((css.drop s).take (e - s)).flatten ++ ((css.drop s).drop (e - s)).flatten) := by
  rw [← List.flatten_append, ← List.flatten_append, List.take_append_drop, List.take_append_drop]
 have hts : (css.take s).flatten.length = s * 7 := by
  rw [qbM (k := 7) _ (fun x hx => hk x (List.mem_of_mem_take hx)), List.length_take]; congr 1; omega
 have := hc (s * 7 + j) u (by
  rw [hsplit, List.getElem?_append_right (by omega), hts, show s * 7 + j - s * 7 = j by omega]
  obtain ⟨hjl, _⟩ := List.getElem?_eq_some_iff.1 hj
  rw [List.getElem?_append_left hjl]; exact hj)
 rwa [← Nat.add_assoc] at this
theorem Rcs.cut {W : World} {css : List (List Value)} {rs : List Rc} (h : Rcs W css rs) (s m : Nat) : Rcs W ((css.drop s).take m) ((rs.drop s).take m) := by
 refine ⟨by simp [h.1], fun i h1 h2 => ?_⟩
 simp only [List.getElem_take, List.getElem_drop]
 rw [List.length_take, List.length_drop] at h1 h2
 exact h.2 _ (by omega) (by omega)
theorem qmN {rs : List Rc} {s e : Nat} (h1 : s < e) (h2 : e ≤ rs.length) : ∃ y r, (rs.drop s).take (e - s) = y :: r ∧ y = rs[s] ∧ runR rs (s, e) = ⟨y.owner, leastM y.ttl r, y.data⟩ := by
 refine ⟨rs[s], (rs.drop (s + 1)).take (e - s - 1), ?_, rfl, ?_⟩
 ·rw [List.drop_eq_getElem_cons (by omega)]
  obtain ⟨m, hm⟩ : ∃ m, e - s = m + 1 := ⟨e - s - 1, by omega⟩
  rw [hm, List.take_succ_cons]
  rfl
 ·unfold runR
  rw [List.drop_eq_getElem_cons (show s < rs.length by omega)]
theorem qil (x : Rc) : ∀ l : List Rc, (insS l x).length = l.length + 1
 | [] => rfl
 | y :: r => by
  unfold insS
  split
  ·simp [qil x r]
  ·simp
theorem qkj (l : List Rc) : (sortM l).length = l.length := by
 unfold sortM
 suffices ∀ (l a : List Rc), (l.foldl insS a).length = a.length + l.length by simpa using this l []
 intro l
 induction l with
 | nil => intro a; simp
 | cons x l ih => intro a; rw [List.foldl_cons, ih, qil]; simp; omega
theorem qmD (l : List Rc) : ∀ z ∈ sortM l, z ∈ l := by
 unfold sortM
 suffices ∀ (l a : List Rc), ∀ z ∈ l.foldl insS a, z ∈ a ∨ z ∈ l by
  intro z hz
  rcases this l [] z hz with h | h
  ·cases h
  ·exact h
 intro l
 induction l with
 | nil => intro a z hz; exact .inl hz
 | cons x l ih =>
  intro a z hz
  rw [List.foldl_cons] at hz
  rcases ih _ z hz with h | h
  ·rcases qe7 a z h with rfl | h
   ·exact .inr (by simp)
   ·exact .inl h
  ·exact .inr (by simp [h])
theorem SlK.moved {W W' : World} {v : Value} {css : List (List Value)} (h : SlK W v css) (hs : W.heap.size ≤ W'.heap.size) (hb : ∀ b, v.ownBlock = some b → b < W.heap.size → W'.heap[b]? = W.heap[b]?) : SlK W' v css := by
 obtain ⟨a, c, rfl, h1, h2, h3⟩ := h
 refine ⟨a, c, rfl, h1, h2, ?_⟩
 rcases h3 with h3 | ⟨b, off, rfl, hlt, hc⟩
 ·exact .inl h3
 ·exact .inr ⟨b, off, rfl, by omega, fun j u hj => (World.cell?_of_block (a := ⟨b, off + j, none⟩) (hb b rfl hlt)).trans (hc j u hj)⟩
theorem qj6 (N B : Nat) (w W0 : World) (a : Option Addr) (m c b1 b2 : Nat) (css : List (List Value)) (rs : List Rc) (hA : SlK W0 (.slice a m c) css) (hm : css.length = m) (hmb : m ≤ 1048576) (hR : Rcs w css rs) (hOK : ∀ r ∈ rs, RcOK r)
 (hw : Below w.heap.size w W0) (hB : w.heap.size ≤ B) (hN : N = W0.heap.size) (hb1 : b1 < N) (hb1B : b1 ≠ B) (hb2 : b2 < N) (hb2B : b2 ≠ B) (hown : ∀ b, (Value.slice a m c).ownBlock = some b → b ≠ B)
 (hc1 : Boxed W0 b1 22 (.slice a m c)) (hc2 : Boxed W0 b2 172 (.func (.func 115) #[] #[])) :
 ∃ g off, (0 < m → a = some ⟨g, off, none⟩ ∧ g < W0.heap.size ∧ g ≠ B ∧ ∀ j u, css.flatten[j]? = some u → W0.cell? ⟨g, off + j, none⟩ = some u) ∧
 SeqStopsK Fence.wide 7 Tryz.prog 149 #[.pointer (some ⟨b1, 0, none⟩), .pointer (some ⟨b2, 0, none⟩)] (segV g off c (n := m)) (KpX N B) (fun xs => xs.map (·.1) = segs rs) (fun _ => True) m W0 := by
 have hck : ∀ cs ∈ css, cs.length = 7 := fun cs hc => by
  obtain ⟨i, hi, rfl⟩ := List.mem_iff_getElem.1 hc
  exact (hR.2 i hi (by have := hR.1; omega)).len
 obtain ⟨g, off, hg⟩ : ∃ g off, 0 < m → a = some ⟨g, off, none⟩ ∧ g < W0.heap.size ∧ ∀ j u, css.flatten[j]? = some u → W0.cell? ⟨g, off + j, none⟩ = some u := by
  by_cases h0 : 0 < m
  ·obtain ⟨a', c', e, _, _, h3⟩ := id hA
   cases e
   rcases h3 with h3 | ⟨b, off, rfl, hlt, hc⟩
   ·subst h3; rw [← hm] at h0; exact absurd h0 (Nat.lt_irrefl 0)
   ·exact ⟨b, off, fun _ => ⟨rfl, hlt, hc⟩⟩
  ·exact ⟨0, 0, fun h => absurd h h0⟩
 refine ⟨g, off, fun h0 => ?_, ?_⟩
 ·obtain ⟨e, h1, h2⟩ := hg h0
  exact ⟨e, h1, hown g (by rw [e]; rfl), h2⟩
 have hnc : m ≤ c := by
  obtain ⟨a', c', e, h1, _⟩ := id hA
  cases e; omega
 have hrec : ∀ W, KpX N B W0 W → ∀ i (hi : i < css.length) (hi' : i < rs.length), RcAt W css[i] rs[i] := fun W hK i hi hi' =>
  (hR.2 i hi hi').below (hw.trans (hK.below hB (by rw [hN]; exact hw.size)))
 have H : RunW b1 b2 a g off m c css rs (KpX N B) (fun W => KpX N B W0 W) :=
  { c1 := fun W hK => Boxed.cell (t := 22) ((hK.block b1 hb1 hb1B).trans hc1)
    c2 := fun W hK => Boxed.cell (t := 172) ((hK.block b2 hb2 hb2B).trans hc2)
    ha := fun h0 => (hg h0).1
    el := fun W hK k hlt u0 u1 u2 u3 u4 u5 u6 e => by
     have h0 : 0 < m := by omega
     obtain ⟨ea, hgl, _⟩ := hg h0
     have hA2 : SlK W (.slice a m c) css := hA.moved hK.size (fun b e hb => hK.block b (by omega) (hown b e))
     obtain ⟨g', off', ea', _, hel⟩ := hA2.elem hck (by omega)
     rw [ea] at ea'
     cases ea'
     exact hel k hlt u0 u1 u2 u3 u4 u5 u6 e W (qL0)
    same := fun W hK i j hi hj hi' hj' => qlL css[i] css[j] rs[i] rs[j] W (hrec W hK i hi hi') (hrec W hK j hj hj') (hOK _ (List.getElem_mem _)) (hOK _ (List.getElem_mem _))
    below := fun W W' h hb => h.trans (KpX.of_below (by rw [hN]; exact h.size) hb)
    kp := fun W W' h k => h.trans k
    shape := fun k hk => by
     obtain ⟨x0, x3, x4, x5, x6, e⟩ := (hR.2 k hk (by have := hR.1; omega)).shape
     exact ⟨_, _, x0, x3, x4, x5, x6, e⟩ }
 intro l J Jx W hW hJ hJx hY h0
 refine (qmh 7 (by omega) l b1 b2 a g off m c hnc (by omega) css rs hm (by rw [← hR.1]; exact hm) (KpX N B) _ H J Jx (fun pre W W' h hb => hJ pre W W' none h (qby hb) (fun _ e => by cases e)) hY W (KpX.of_below (by omega) hW) h0).mono ?_
 rintro e W' ⟨h1, h2 | ⟨pre, h2⟩⟩
 ·exact ⟨h1, .inl h2⟩
 ·exact ⟨h1, .inr ⟨pre, trivial, h2⟩⟩
end Go.Proofs.YtckammgnmgkieaaGreat
namespace Go.Proofs.YtckammgnmgkieaaGreat
set_option linter.unusedVariables false
set_option linter.unusedSimpArgs false
set_option maxRecDepth 100000
set_option maxHeartbeats 8000000
open Go.RowKit Go.Shelf
theorem FrAt.withTTL {W : World} {base : Nat} {x0 x1 x2 x3 x4 x5 x6 : Value} {y : Rc} (t : Nat) (h : FrAt W base [x0, x1, x2, x3, x4, x5, x6] y) : FrAt W base [x0, .int .u32 (t : Int), x2, x3, x4, x5, x6] ⟨y.owner, t, y.data⟩ := by
 obtain ⟨vo, vn, vu, vt, vr, e, h1, h2⟩ := h
 simp only [List.cons.injEq, and_true] at e
 obtain ⟨rfl, -, rfl, rfl, rfl, rfl, rfl⟩ := e
 exact ⟨_, _, _, _, _, rfl, h1, h2⟩
theorem KeepsOthers.of_below {W W' : World} (hb : Below W.heap.size W W') : KeepsOthers W W' := ⟨hb.size, fun k o hk _ => (hb.block k (Array.getElem?_eq_some_iff.1 hk).1).trans hk⟩
theorem KeepsOthers.grown_c {k : Nat} {T : TypeId} {W W' : World} {base : Nat} {v : Value} {xss : List (List Value)} (h : OwnC k T W base v xss) (hg : W.grownBy W' v.ownBlock) : KeepsOthers W W' :=
 ⟨hg.size, fun i o hi ho => (hg.block i (Array.getElem?_eq_some_iff.1 hi).1 (fun e => by
   obtain ⟨cs, h3⟩ := h.blk i e.symm
   rw [hi] at h3; cases h3; cases ho)).trans hi⟩
def qev (w : World) (rs : List Rc) (e : Ending) (w' : World) : Prop :=
 ∃ v css, e = .returned v ∧ OwnC 7 103 w' w.heap.size v css ∧ css.length = (canonM rs).length ∧ (∀ j (h1 : j < css.length) (h2 : j < (canonM rs).length), FrAt w' w.heap.size css[j] (canonM rs)[j]) ∧ Below w.heap.size w w'
section
attribute [local go_sem] Oper.semAt_some
theorem qgF (v : Value) (css : List (List Value)) (rs : List Rc) (w : World) (hA : SlK w v css) (hR : Rcs w css rs) (hOK : ∀ r ∈ rs, RcOK r) (hl : css.length ≤ 1048576) :
 Calls Tryz.prog 62 #[v] w (qev w rs) := by
 have hS := qjX w v css rs (w.alloc (.cells #[.slice none 0 0] 22)) ((Below.refl _ w).alloc (qN0) _) (hA.below ((Below.refl _ w).alloc (qN0) _)) hR hOK (by omega)
 have HL := qH0 (show rs.length ≤ 1048576 by have := hR.1; omega)
 have HOK := qH0 hOK
 obtain ⟨a, c, rfl, -⟩ := id hA
 obtain ⟨n0, hn0⟩ : ∃ n, css.length = n := ⟨_, rfl⟩
 rw [hn0] at hS ⊢
 clear hA hR hOK hl hn0
 refine (callsIn_wide (n := 8)).1 ?_
 refine callsIn_of_wp_marks Tryz.func62 rfl trivial ?_ rfl
 simp only [Tryz.ntmps62, List.size_toArray, List.length_cons, List.length_nil, Nat.reduceAdd, Nat.reduceSub, Array.replicate_succ, Array.replicate_zero, List.push_toArray, List.append_toArray, List.nil_append, List.cons_append]
 gi_wp2_with (refine ⟨trivial, ?_⟩; gi_at_call 113; refine (callsIn_wide.2 hS).mono ?_; rintro e w1 ⟨v1, css1, rfl, hA1, hR1, hb1, hB1⟩; obtain ⟨a1, c1, rfl, -⟩ := id hA1; obtain ⟨m, hm⟩ : ∃ m, css1.length = m := ⟨_, rfl⟩; rw [hm] at hA1 hb1 ⊢; have HA1 := qH0 hA1; have HR1 := qH0 hR1; have Hb1 := qH0 hb1; have HB1 := qH0 hB1; have HM := qH0 hm; clear hA1 hR1 hb1 hB1 hm hS)
 refine ⟨trivial, ?_⟩
 refine (callsIn_wide.2 (qmb _ _ _ _)).mono ?_
 rintro e w2 ⟨rfl, rfl⟩
 gi_wp2
 obtain ⟨B, hB⟩ : ∃ B, w.heap.size = B := ⟨_, rfl⟩
 obtain ⟨W0, hW0⟩ : ∃ W0, (w1.alloc (.cells #[.slice a1 m c1] 22)).alloc (.cells #[.func (.func 115) #[] #[]] 172) = W0 := ⟨_, rfl⟩
 obtain ⟨N, hN⟩ : ∃ N, W0.heap.size = N := ⟨_, rfl⟩
 have hsz : N = w1.heap.size + 2 := by rw [← hN, ← hW0]; simp
 have hs1 : B + 1 ≤ w1.heap.size := by have := HB1.out.size; simp at this; omega
 have hBx : Boxed w1 B 22 (.slice none 0 0) := by
  have h := Boxed.new w 22 (.slice none 0 0)
  rw [hB] at h
  exact (HB1.out.block B (by simp; omega)).trans h
 have hw1 : Below w.heap.size w w1 := (((Below.refl _ w).alloc (qN0) _).trans (HB1.out.mono (by simp)))
 have hB01 : Below w1.heap.size w1 W0 := by rw [← hW0]; exact ((Below.refl _ w1).alloc (qN0) _).alloc (by simp) _
 have b1 : Boxed W0 w1.heap.size 22 (.slice a1 m c1) := by rw [← hW0]; exact (Boxed.new w1 _ _).alloc _
 have b2 : Boxed W0 (w1.heap.size + 1) 172 (.func (.func 115) #[] #[]) := by
  have := Boxed.new (w1.alloc (.cells #[.slice a1 m c1] 22)) 172 (.func (.func 115) #[] #[])
  rw [World.size_alloc] at this
  rw [← hW0]; exact this
 have hBx0 : Boxed W0 B 22 (.slice none 0 0) := (hB01.block B (by omega)).trans hBx
 have hmb : m ≤ 1048576 := by have := HM.out; have := HR1.out.1; have := HL.out; rw [qkj] at *; omega
 have hOKs : ∀ r ∈ sortM rs, RcOK r := fun r h => HOK.out r (qmD rs r h)
 have hw0 : Below w.heap.size w W0 := hw1.trans (hB01.mono (by omega))
 obtain ⟨g, off, hg, hseq⟩ := qj6 N B w W0 a1 m c1 w1.heap.size (w1.heap.size + 1) css1 (sortM rs) (HA1.out.below hB01) HM.out hmb HR1.out hOKs hw0 (by omega) hN.symm (by omega) (by omega) (by omega) (by omega) (fun b e => by have := Hb1.out b e; simp at this; omega) b1 b2
 have hsl : m = (sortM rs).length := by rw [← HR1.out.1]; exact HM.out.symm
 have hnc : m ≤ c1 := by
  obtain ⟨a', c', e, h1, _⟩ := HA1.out
  have := HM.out
  cases e; omega
 have hck : ∀ cs ∈ css1, cs.length = 7 := fun cs hc => by
  obtain ⟨i, hi, rfl⟩ := List.mem_iff_getElem.1 hc
  exact (HR1.out.2 i hi (by have := HR1.out.1; omega)).len
 rw [hB, hW0]
 have HSEQ := qH0 hseq; have HG := qH0 hg; have HSZ := qH0 hsz; have HS1 := qH0 hs1; have HW0 := qH0 hw0; have HMB := qH0 hmb; have HOKS := qH0 hOKs; have HSL := qH0 hsl; have HNC := qH0 hnc; have HCK := qH0 hck; have HB := qH0 hB; have HN := qH0 hN
 clear hseq hg hsz hs1 hw0 hmb hOKs hsl hnc hck hBx hw1 hB01 b1 b2 HB1 Hb1 HA1 hW0 hB hN
 refine wpIn_rangeFunc_ownG rfl (by omega) (gf := 149) (lb := #[.pointer (some ⟨w1.heap.size, 0, none⟩), .pointer (some ⟨w1.heap.size + 1, 0, none⟩)]) rfl trivial (enters_of Tryz.func149 (by kernel_rfl) rfl)
  HSEQ.out (fun h k => h.trans k)
  (fun W l o o' hl h h1 h2 => ⟨rfl, rfl, rfl, by simp, fun k a b => World.putObj_heap_other (by have := HN.out; omega)⟩) (qL0) (fun _ => rfl)
  (CanI N B W0 (sortM rs)) (fun k pre W => False) (by rw [HN.out]; exact qmd (by have := HSZ.out; have := HS1.out; omega) (by rw [HN.out]; omega)) (fun _ => ownFrom_pure _ _)
  ⟨KpX.refl _ _ _, .slice none 0 0, [], hBx0, OwnK.nil _ _, rfl, fun j h => by simp at h⟩
  (fun x => { tmps := #[.slice a n0 c, undef, .slice none 0 0, .pointer (some ⟨B, 0, none⟩), .slice (some ⟨g, off + x.1.1 * 7, none⟩) (x.1.2 - x.1.1) (c1 - x.1.1), undef, .slice a n0 c, .slice a1 m c1, .func (.func 149) #[] #[.pointer (some ⟨w1.heap.size, 0, none⟩), .pointer (some ⟨w1.heap.size + 1, 0, none⟩)], .slice (some ⟨g, off + x.1.1 * 7, none⟩) (x.1.2 - x.1.1) (c1 - x.1.1), undef, undef, undef, undef, undef, undef, undef, undef, undef, undef, undef, undef], defers := [] }) ?assign ?body ?done ?stop
 case assign =>
  intro l x W K hK
  unfold segV
  gi_wp2
  exact hK
 case body =>
  rintro l pre ⟨⟨s, e⟩, hx1, hx2⟩ W ⟨hK, v, css, hb, ho, hl, hf⟩ hlt
  simp only at hx1 hx2
  have hs1 : s < css1.length := by rw [HM.out]; omega
  have hs2 : s < (sortM rs).length := by have := HSL.out; omega
  obtain ⟨ha, hgW, hgB, hcW⟩ := HG.out (by omega)
  subst ha
  have hNW : N ≤ W.heap.size := by rw [← HN.out]; exact hK.size
  have hgN : g < N := by rw [← HN.out]; exact hgW
  have hwW : Below w.heap.size w W := HW0.out.trans (hK.below (by have := HB.out; omega) (by have := HN.out; have := HW0.out.size; omega))
  have hRW : Rcs W css1 (sortM rs) := ⟨HR1.out.1, fun i h1 h2 => (HR1.out.2 i h1 h2).below hwW⟩
  have hpc := SlK.cut (W := W) HCK.out HM.out HNC.out (by omega) (fun j u hj => (World.cell?_of_block (a := ⟨g, off + j, none⟩) (hK.block g hgN hgB)).trans (hcW j u hj)) s e hx1 hx2
  have hpr := hRW.cut s (e - s)
  obtain ⟨y, r, hyr, hy, hrun⟩ := qmN (rs := sortM rs) hx1 (by rw [← HSL.out]; exact hx2)
  have hyok : RcOK y := by rw [hy]; exact HOKS.out _ (List.getElem_mem _)
  have hrok : ∀ z ∈ y :: r, RcOK z := fun z hz => HOKS.out z (by rw [← hyr] at hz; exact List.mem_of_mem_drop (List.mem_of_mem_take hz))
  have hplen : ((css1.drop s).take (e - s)).length = e - s := by rw [List.length_take, List.length_drop]; have := HM.out; omega
  have hpck : ∀ cs ∈ (css1.drop s).take (e - s), cs.length = 7 := fun cs h => HCK.out cs (List.mem_of_mem_drop (List.mem_of_mem_take h))
  rw [hyr] at hpr
  generalize (css1.drop s).take (e - s) = pcs at hpc hpr hplen hpck
  obtain ⟨L, hL⟩ : ∃ L, e - s = L + 1 := ⟨e - s - 1, by omega⟩
  obtain ⟨off2, hoff⟩ : ∃ o, off + s * 7 = o := ⟨_, rfl⟩
  obtain ⟨c2, hc2⟩ : ∃ o, c1 - s = o := ⟨_, rfl⟩
  have hL20 : L + 1 ≤ 1048576 := by have := HMB.out; omega
  simp only [hL, hoff, hc2]
  rw [hL, hoff, hc2] at hpc
  rw [hL] at hplen
  obtain ⟨g', off', ea, hgl, hel⟩ := hpc.elem hpck (by omega)
  cases ea
  have hR0 : RcAt W (pcs[0]'(by omega)) y := hpr.2 0 (by omega) (by simp)
  have HFr := qH0 (qkH _ y W hR0 hyok)
  obtain ⟨⟨p0, q0, r0⟩, ⟨p3, q3, r3⟩, ⟨p4, q4, r4⟩, ⟨p5, q5, r5⟩, ⟨p6, q6, r6⟩, e0⟩ := hR0.shape
  simp only at e0
  have hcell := hel 0 (by omega) _ _ _ _ _ _ _ e0 W (qL0)
  simp only [Nat.zero_mul, Nat.add_zero] at hcell
  obtain ⟨g0, g1, g2, g3, g4, g5, g6⟩ := hcell
  rw [e0] at HFr
  have HLeast := qH0 (fun W' (hb : Below W.heap.size W W') => qlg _ pcs y r W' (hpc.below hb) (hpr.below hb) hrok (by omega))
  have HK := qH0 hK; have HBX := qH0 hb; have HOW := qH0 ho; have HLEN := qH0 hl; have HF := qH0 hf; have HRUN := qH0 hrun; have HPRE := qH0 hlt; have HNW := qH0 hNW
  have hLz : (0 : Int) < ((L + 1 : Nat) : Int) := by omega
  clear hK hb ho hl hf hrun hlt hs1 hs2 hgW hgB hcW hNW hgN hwW hRW hpc hpr hyr hy hyok hrok hplen hpck hL hoff hc2 hgl hel hR0 e0 hBx0 HSEQ HG HSZ HS1 HL HOK HR1 HM HOKS HSL HNC HCK HN
  gi_wp2_with (refine ⟨trivial, ?_⟩; gi_at_call 116; refine (CallsIn.inRound l (callsIn_wide.2 HFr.out)).mono ?_; rintro e w2 ⟨cs, rfl, hfr, hb2⟩; obtain ⟨⟨i0, j0, k0⟩, ⟨i3, j3, k3⟩, ⟨i4, j4, k4⟩, ⟨i5, j5, k5⟩, ⟨i6, j6, k6⟩, e1⟩ := hfr.rcAt.shape; simp only at e1; subst e1; have HFR := qH0 hfr; have HB2 := qH0 hb2; clear hfr hb2 HFr g0 g1 g2 g3 g4 g5 g6)
  obtain ⟨W3, hW3⟩ : ∃ W3, w2.alloc (.cells #[.slice i0 j0 k0, .int .u32 (y.ttl : Int), .int .i64 y.data.ty, .slice i3 j3 k3, .slice i4 j4 k4, .slice i5 j5 k5, .slice i6 j6 k6] 103) = W3 := ⟨_, rfl⟩
  have hx3 : W3.heap[w2.heap.size]? = some (.cells #[.slice i0 j0 k0, .int .u32 (y.ttl : Int), .int .i64 y.data.ty, .slice i3 j3 k3, .slice i4 j4 k4, .slice i5 j5 k5, .slice i6 j6 k6] 103) := by rw [← hW3]; exact knew _ _
  have HB3 : Hid (Below W.heap.size W W3) := by rw [← hW3]; exact qH0 (HB2.out.alloc HB2.out.size _)
  have HFR3 : Hid (FrAt W3 W.heap.size [.slice i0 j0 k0, .int .u32 (y.ttl : Int), .int .i64 y.data.ty, .slice i3 j3 k3, .slice i4 j4 k4, .slice i5 j5 k5, .slice i6 j6 k6] y) := by rw [← hW3]; exact qH0 (HFR.out.below ((Below.refl _ w2).alloc (qN0) _))
  rw [hW3]
  have HW2 := qH0 HB2.out.size
  obtain ⟨t, ht⟩ : ∃ t, leastM y.ttl r = t := ⟨_, rfl⟩
  have hle := HLeast.out W3 HB3.out
  rw [ht] at hle HRUN
  clear HB2 HFR hW3 HLeast
  refine ⟨trivial, ?_⟩
  refine (CallsIn.inRound l (callsIn_wide.2 hle)).mono ?_
  rintro e' w4 ⟨rfl, hb4⟩
  have hx4 := (hb4.block _ (qaa hx3)).trans hx3
  have hx5 : (w4.setCell ⟨w2.heap.size, 1, none⟩ (.int .u32 (t : Int))).heap[w2.heap.size]? = some (.cells #[.slice i0 j0 k0, .int .u32 (t : Int), .int .i64 y.data.ty, .slice i3 j3 k3, .slice i4 j4 k4, .slice i5 j5 k5, .slice i6 j6 k6] 103) := kset hx4 1 (.int .u32 (t : Int))
  have hf4 := qab hx4 1
  have hc41 := kcell hx4 1 _ rfl
  have HB5 := qH0 ((qB0 HB3.out hb4).setCell (p := ⟨w2.heap.size, 1, none⟩) HW2.out (.int .u32 (t : Int)))
  have HFR5 := qH0 ((((HFR3.out.below hb4).keepB hx4 1 (.int .u32 (t : Int))).withTTL t).weaken HNW.out)
  have hBx5 : Boxed (w4.setCell ⟨w2.heap.size, 1, none⟩ (.int .u32 (t : Int))) B 22 v := (HB5.out.block B HBX.out.lt).trans HBX.out
  have HOW5 := qH0 (OwnK.below HOW.out HB5.out)
  have hbc := Boxed.cell (t := 22) hBx5
  have y0 := kcell hx5 0 _ rfl; have y1 := kcell hx5 1 _ rfl; have y2 := kcell hx5 2 _ rfl; have y3 := kcell hx5 3 _ rfl; have y4 := kcell hx5 4 _ rfl; have y5 := kcell hx5 5 _ rfl; have y6 := kcell hx5 6 _ rfl
  have HBX5 := qH0 hBx5
  clear hx3 hx4 hb4 HB3 HFR3 hle hBx5 hx5
  have hlen : css.length + 1 ≤ 1048577 := by have h := HLEN.out; have h2 := HPRE.out; have h3 := HMB.out; rw [List.length_map] at h; omega
  have HLN := qH0 hlen
  have hnb : N ≤ (w4.setCell ⟨w2.heap.size, 1, none⟩ (.int .u32 (t : Int))).heap.size := Nat.le_trans HNW.out HB5.out.size
  have HNB := qH0 hnb
  clear hlen hnb
  gi_wp2_with (gi_at_builtin; refine qf3 (w4.setCell ⟨w2.heap.size, 1, none⟩ (.int .u32 (t : Int))) rfl (.tmp 17) (.tmp 19) qdA (by decide) rfl N v css rfl HOW5.out [.slice i0 j0 k0, .int .u32 (t : Int), .int .i64 y.data.ty, .slice i3 j3 k3, .slice i4 j4 k4, .slice i5 j5 k5, .slice i6 j6 k6] rfl (by intro u hu; simp only [List.mem_cons, List.not_mem_nil, or_false] at hu; rcases hu with rfl | rfl | rfl | rfl | rfl | rfl | rfl <;> rfl) 1 (by simp [Act.eval]) HNB.out (by have := HLN.out; unfold maxLen; omega) (by have := HLN.out; omega) ?_; intro v6 w6 hown6 hg6; obtain ⟨a9, c9, e9⟩ := OwnK.shape hown6; generalize List.length _ = ln at e9; subst e9; have hne6 : some B ≠ v.ownBlock := HOW5.out.ne_block HBX5.out (by decide); have hBx6 := HBX5.out.kept hg6 hne6; have c6 := hBx6.cell; have f6 := hBx6.frozen; have HBX6 := qH0 hBx6; have HOW6 := qH0 hown6; have HG6 := qH0 hg6; clear hne6 hBx6 hown6 hg6)
  have hK6 : KpX N B W (w6.setCell ⟨B, 0, none⟩ (.slice a9 ln c9)) :=
   ((KpX.of_below HNW.out HB5.out).trans (KpX.grown HNB.out HG6.out (fun r e => .inl (OwnK.base_le HOW5.out r e)))).trans (KpX.grown (Nat.le_trans HNB.out HG6.out.size) (qah w6 B 0 _) (fun r e => by cases e; exact .inr rfl))
  have hko : KeepsOthers W (w6.setCell ⟨B, 0, none⟩ (.slice a9 ln c9)) :=
   ((KeepsOthers.of_below HB5.out).trans (KeepsOthers.grown_c HOW5.out HG6.out)).trans (KeepsOthers.setCell _ _ _)
  refine ⟨hko.from _, hK6, HK.out.trans hK6, ?_⟩
  rw [List.map_append]
  refine OutAt.snoc HBX5.out HOW5.out HLEN.out (fun j h1 h2 => (HF.out j h1 h2).below HB5.out) ?_ HOW6.out HG6.out
  show FrAt _ N _ (runR (sortM rs) (s, e))
  rw [HRUN.out]
  exact HFR5.out
 case done =>
  rintro D zs W hD hzs ⟨hK, v, css, hb, ho, hl, hf⟩ hD0
  have hc := hb.cell
  rw [hzs] at hl hf
  have hcan : canonM rs = (segs (sortM rs)).map (runR (sortM rs)) := by rw [qlN, qlf]
  have HCAN := qH0 hcan; have HL2 := qH0 hl; have HF2 := qH0 hf; have HK2 := qH0 hK; have HO2 := qH0 ho; have HZS := qH0 hzs
  have HD := qH0 hD
  clear hcan hl hf hK ho hzs hD
  gi_wp2
  refine ⟨by simp, .inl ⟨_, _, rfl, run_takeDeferred hD0, ?_⟩⟩
  refine ⟨_, results_tmp rfl _ _ _, ?_⟩
  have hr : ∀ r, some D = some r → ∃ o : Obj, W.heap[r]? = some o ∧ o.isCells = false := fun r e => by cases e; exact ⟨_, hD0, rfl⟩
  have hDN : w.heap.size ≤ D := by have := HD.out; have := HW0.out.size; omega
  have hwN : w.heap.size ≤ N := by have := HN.out; have := HW0.out.size; omega
  refine ⟨v, css, rfl, (HO2.out.keptO (grownBy_putObj' W D _) hr).weaken hwN, by rw [HL2.out, HCAN.out, List.length_map], fun j h1 h2 => ?_, ?_⟩
  ·have hj : j < (segs (sortM rs)).length := by rw [← HL2.out]; exact h1
   have e : (canonM rs)[j]'h2 = runR (sortM rs) (segs (sortM rs))[j] := by
    simp only [HCAN.out, List.getElem_map]
   rw [e]
   exact ((HF2.out j h1 hj).keptO (grownBy_putObj' W D _) hr).weaken hwN
  ·exact qal (HW0.out.trans (HK2.out.below (by have := HB.out; omega) hwN)) hDN (qN0)
 case stop =>
  rintro D c3 pre W hD hp hF hK
  exact hF.elim
end
end Go.Proofs.YtckammgnmgkieaaGreat
