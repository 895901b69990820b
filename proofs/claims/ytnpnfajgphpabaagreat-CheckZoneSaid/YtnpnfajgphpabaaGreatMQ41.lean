import Derived.Shelf.Slices.Turned
import Derived.Ground.Names2Prog
import Derived.Shelf.Slices.Clone
import Derived.Shelf.Slices.SearchI
import Derived.Lib.OwnBridge
import Derived.ControlIn
import Derived.Test.YtnpnfajgphpabaaGreatMQ21
import Derived.Test.YtnpnfajgphpabaaGreatMQ04
namespace Go.Proofs.YtnpnfajgphpabaaGreat
set_option linter.unusedVariables false
set_option linter.unusedSimpArgs false
set_option maxRecDepth 20000
open Go.RowKit Go.Shelf
theorem SlK.elem4 {W : World} {a : Option Addr} {n c : Nat} {css : List (List Value)} (h : SlK W (.slice a n c) css) (hk : ∀ cs ∈ css, cs.length = 4) (h0 : 0 < css.length) : ∃ b off, a = some ⟨b, off, none⟩ ∧ b < W.heap.size ∧
 ∀ k (hlt : k < css.length) (u0 u1 u2 u3 : Value), css[k] = [u0, u1, u2, u3] → ∀ W', Below W.heap.size W W' →
  W'.cell? ⟨b, off + k * 4, none⟩ = some u0 ∧ W'.cell? ⟨b, off + k * 4 + 1, none⟩ = some u1 ∧ W'.cell? ⟨b, off + k * 4 + 2, none⟩ = some u2 ∧ W'.cell? ⟨b, off + k * 4 + 3, none⟩ = some u3 := by
 obtain ⟨a', c', e, _, _, h3⟩ := h
 cases e
 rcases h3 with h3 | ⟨b, off, rfl, hb, hc⟩
 ·subst h3; simp at h0
 ·refine ⟨b, off, rfl, hb, fun k hlt u0 u1 u2 u3 he W' hB => ?_⟩
  have key : ∀ j u, j < 4 → [u0, u1, u2, u3][j]? = some u → W'.cell? ⟨b, off + k * 4 + j, none⟩ = some u := fun j u hj hu => by
   rw [hB.cell (p := ⟨b, off + k * 4 + j, none⟩) hb, Nat.add_assoc]
   refine hc (k * 4 + j) u ?_
   have hl : ∀ (l : List (List Value)) (k : Nat) (hlt : k < l.length), (∀ cs ∈ l, cs.length = 4) → l[k] = [u0, u1, u2, u3] → l.flatten[k * 4 + j]? = some u := by
    intro l
    induction l with
    | nil => intro k hlt; simp at hlt
    | cons x r ih =>
     intro k hlt hk he
     rw [List.flatten_cons]
     cases k with
     | zero =>
      rw [List.getElem_cons_zero] at he
      rw [he, List.getElem?_append_left (by simp; omega)]
      simpa using hu
     | succ k =>
      rw [List.getElem_cons_succ] at he
      have hx : x.length = 4 := hk x (by simp)
      rw [List.getElem?_append_right (by rw [hx]; omega), hx, show (k + 1) * 4 + j - 4 = k * 4 + j by omega]
      exact ih k (by simpa using hlt) (fun cs hc => hk cs (by simp [hc])) he
   exact hl css k hlt hk he
  exact ⟨key 0 u0 (by omega) rfl, key 1 u1 (by omega) rfl, key 2 u2 (by omega) rfl, key 3 u3 (by omega) rfl⟩
def Dts (W : World) (css : List (List Value)) (ds : List Dat) : Prop := css.length = ds.length ∧ ∀ i (h1 : i < css.length) (h2 : i < ds.length), css[i].length = 5 ∧ DatAt W (.agg css[i].toArray) ds[i]
theorem Dts.below {W W' : World} {css : List (List Value)} {ds : List Dat} (h : Dts W css ds) (hb : Below W.heap.size W W') : Dts W' css ds := ⟨h.1, fun i h1 h2 => ⟨(h.2 i h1 h2).1, (h.2 i h1 h2).2.below hb⟩⟩
theorem Dts.ck {W : World} {css : List (List Value)} {ds : List Dat} (h : Dts W css ds) : ∀ cs ∈ css, cs.length = 5 := fun cs hc => by
 obtain ⟨i, hi, rfl⟩ := List.mem_iff_getElem.1 hc
 exact (h.2 i hi (by have := h.1; omega)).1
theorem qkO {W : World} {cs : List Value} {d : Dat} (h : DatAt W (.agg cs.toArray) d) : ∃ x3 x4 x5 x6 : Option Addr × Nat × Nat, cs = [.int .i64 d.ty, .slice x3.1 x3.2.1 x3.2.2, .slice x4.1 x4.2.1 x4.2.2, .slice x5.1 x5.2.1 x5.2.2, .slice x6.1 x6.2.1 x6.2.2] := by
 obtain ⟨un, uu, ut, ur, e, ⟨vs, g1, _⟩, g2, g3, g4⟩ := h
 have e' : cs = [Value.int .i64 d.ty, un, uu, ut, ur] := by
  have : cs.toArray = #[Value.int .i64 d.ty, un, uu, ut, ur] := by injection e
  exact congrArg Array.toList this
 obtain ⟨a3, c3, rfl, _⟩ := g1
 obtain ⟨a4, c4, rfl, _⟩ := g2
 obtain ⟨a5, c5, rfl, _⟩ := nmAt_sl.1 g3
 obtain ⟨a6, c6, rfl, _⟩ := g4
 exact ⟨(a3, _, c3), (a4, _, c4), (a5, _, c5), (a6, _, c6), e'⟩
theorem qbD : ElemT 3 68 8 := ⟨Tryz.underlying68, _, _, rfl, rfl, rfl, rfl, rfl⟩
def tysM (o : Nm) (l : List Rc) : List Int := (l.filter fun r => sameN r.owner o).map fun r => r.data.ty
def typesM (o : Nm) (l : List Rc) : List Int := Lib.compact ((tysM o l).mergeSort fun x y => decide (x ≤ y))
abbrev iv : Int → Value := Value.int .i64
def TyPost (w : World) (l : List Int) (e : Ending) (w' : World) : Prop := ∃ v, e = .returned v ∧ OwnG 3 iv w' w.heap.size v l ∧ Below w.heap.size w w'
theorem OwnG.len {W : World} {base : Nat} {a : Option Addr} {n c : Nat} {zs : List Int} (h : OwnG 3 iv W base (.slice a n c) zs) : n = zs.length := by
 obtain ⟨_, _, e⟩ := h.shape
 injection e
end Go.Proofs.YtnpnfajgphpabaaGreat
namespace Go.Proofs.YtnpnfajgphpabaaGreat
set_option linter.unusedVariables false
set_option linter.unusedSimpArgs false
set_option maxRecDepth 100000
set_option maxHeartbeats 16000000
open Go.RowKit Go.Shelf
theorem qhk {o : Nm} {t : Int} {l : List Rc} {k : Nat} (h : k < l.length) : (l.take (k + 1)).filter (belM o t) = (l.take k).filter (belM o t) ++ if belM o t l[k] = true then [l[k]] else [] := by
 rw [List.take_succ_eq_append_getElem h, List.filter_append]
 congr 1
 cases e : belM o t l[k] <;> simp [e]
theorem qdb {S T : TypeId} {k bytes : Nat} {ops : Array Oper} {rest : List Oper} {o : Oper} {a : Act} {Q : Exit → Act → World → Prop} (W : World) (hgd : o.guard = none) (s x : Operand) (hE : ElemK k T S bytes) (hk0 : 0 < k)
 (ho : o.op = .call { callee := .builtin .append, args := #[s, x], argTypes := #[S, S] })
 (base : Nat) (v : Value) (xs : List (List Value)) (hs : a.eval s = v) (hown : OwnC k T W base v xs)
 (cs : List Value) (hcl : cs.length = k) (hc1 : ∀ u ∈ cs, u.oneCell' = true) (c : Nat) (hx : a.eval x = .slice (some ⟨W.heap.size, 0, none⟩) 1 c)
 (hbase : base ≤ W.heap.size) (hk : xs.length + 1 ≤ maxLen) (hk2 : (xs.length + 1) * bytes ≤ 140737488355328)
 (h : ∀ v' w', OwnC k T w' base v' (xs ++ [cs]) → W.grownBy w' v.ownBlock → wpList Tryz.prog ops Q rest (a.put o.dst v') w') :
 wpList Tryz.prog ops Q (o :: rest) a (W.alloc (.cells cs.toArray T)) := by
 obtain ⟨ht, i, z, hi, hz, hz1, hz2, hzc⟩ := hE
 refine wpList_append_own _ hgd s x S ho base T i z k bytes ht hi hz hz1 hz2 hzc hk0 v xs.length (xs.flatMap fun cs => cs) hs (hown.alloc _) ⟨W.heap.size, 0, none⟩ 1 c cs hx (by omega) (qba W _ _) hc1 hk hk2 (by simp; omega) ?_
 intro v' w' h1 h2 _
 refine h v' w' ?_ (qaY h2)
 unfold OwnC OwnK
 rw [List.length_append, List.flatMap_append]
 have e : [cs].flatMap (fun cs => cs) = cs := by simp
 rw [e]
 exact h1
def OfPost (w : World) (s : Option St) (e : Ending) (w' : World) : Prop := ∃ cs, e = .returned (.tuple #[.agg cs.toArray, .bool s.isSome]) ∧ SetR w' cs (s.getD ⟨[], 0, 0, []⟩) ∧ Below w.heap.size w w'
def FrSet (W : World) (base : Nat) (cs : List Value) (s : St) : Prop :=
 ∃ (x0 x3 : Option Addr × Nat × Nat) (ds : List (List Value)), cs = [.slice x0.1 x0.2.1 x0.2.2, .int .i64 s.ty, .int .u32 (s.ttl : Int), .slice x3.1 x3.2.1 x3.2.2] ∧ OwnG 9 strV W base (.slice x0.1 x0.2.1 x0.2.2) s.owner ∧
  OwnC 5 44 W base (.slice x3.1 x3.2.1 x3.2.2) ds ∧ ds.length = s.data.length ∧ ∀ j (h1 : j < ds.length) (h2 : j < s.data.length), ∃ vn vu vt vr, ds[j] = [.int .i64 s.data[j].ty, vn, vu, vt, vr] ∧ DRow W base vn vu vt vr s.data[j]
theorem DRow.keptX {W W' : World} {base B : Nat} {vn vu vt vr : Value} {d : Dat} (h : DRow W base vn vu vt vr d) (hB : B < base) (hg : W.grownBy W' (some B)) : DRow W' base vn vu vt vr d := by
 obtain ⟨⟨vs, k1, k2, k3⟩, i1, i2, i3⟩ := h
 have hk : ∀ {α : Type} {T : TypeId} {enc : α → Value} {v : Value} {xs : List α}, OwnG T enc W base v xs → OwnG T enc W' base v xs := fun {α T enc v xs} o => o.kept hg (.inr fun e => by have := o.base_le B e; omega)
 exact ⟨⟨vs, hk k1, k2, fun i a b => hk (k3 i a b)⟩, hk i1, hk i2, hk i3⟩
theorem FrSet.setR {W : World} {base : Nat} {cs : List Value} {s : St} (h : FrSet W base cs s) : SetR W cs s := by
 obtain ⟨x0, x3, ds, e, h1, h2, h3, h4⟩ := h
 have h5 : ∀ c ∈ ds, c.length = 5 := fun c hc => by
  obtain ⟨i, hi, rfl⟩ := List.mem_iff_getElem.1 hc
  obtain ⟨vn, vu, vt, vr, e2, _⟩ := h4 i hi (by omega)
  rw [e2]; rfl
 refine ⟨x0, x3, ds, e, h1.nmAt, SlK.of_own h2 h5, h3, fun j a b => ⟨h5 _ (List.getElem_mem a), ?_⟩⟩
 obtain ⟨vn, vu, vt, vr, e2, h6⟩ := h4 j a b
 rw [e2]; exact h6.datAt
theorem FrSet.keptX {W W' : World} {base B : Nat} {cs : List Value} {s : St} (h : FrSet W base cs s) (hB : B < base) (hg : W.grownBy W' (some B)) : FrSet W' base cs s := by
 obtain ⟨x0, x3, ds, e, h1, h2, h3, h4⟩ := h
 refine ⟨x0, x3, ds, e, h1.kept hg (.inr fun e => by have := h1.base_le B e; omega), OwnK.kept h2 hg (.inr fun e => by have := OwnK.base_le h2 B e; omega), h3, fun j a b => ?_⟩
 obtain ⟨vn, vu, vt, vr, e2, h6⟩ := h4 j a b
 exact ⟨vn, vu, vt, vr, e2, h6.keptX hB hg⟩
theorem qix (W : World) (base : Nat) : FrSet W base [.slice none 0 0, .int .i64 0, .int .u32 0, .slice none 0 0] ((none : Option St).getD ⟨[], 0, 0, []⟩) :=
 ⟨(none, 0, 0), (none, 0, 0), [], rfl, OwnG.nil _ _, OwnK.nil _ _, rfl, fun j a => absurd a (by simp)⟩
theorem qkq {W : World} {N base m : Nat} {css : List (List Value)} {vo vn vu vt vr : Nat → Option Addr × Nat × Nat} {rs : List Rc} (hm : css.length = m) (hl : css.length = rs.length) (hb : base ≤ N) (hF : ∀ j (h1 : j < css.length) (h2 : j < rs.length), FrAt W base css[j] rs[j])
 (hc : ∀ k (hk : k < css.length) (hr : k < rs.length), css[k] = [.slice (vo k).1 (vo k).2.1 (vo k).2.2, .int .u32 (rs[k].ttl : Int), .int .i64 rs[k].data.ty, .slice (vn k).1 (vn k).2.1 (vn k).2.2, .slice (vu k).1 (vu k).2.1 (vu k).2.2, .slice (vt k).1 (vt k).2.1 (vt k).2.2, .slice (vr k).1 (vr k).2.1 (vr k).2.2])
 (x : SegD m) (hd : DatO N css x W) : FrSet W base (setC vo rs x) (setR rs x.1.1) := by
 have hR : Rcs W css rs := ⟨hl, fun i h1 h2 => (hF i h1 h2).rcAt⟩
 have h0 := qh1 hm hR hc x hd
 obtain ⟨⟨⟨s, e⟩, ad, cd⟩, hx1, hx2⟩ := x
 simp only at hx1 hx2
 have hs : s < rs.length := by omega
 have hsc : s < css.length := by omega
 obtain ⟨j, rfl⟩ : ∃ j, e = s + j + 1 := ⟨e - s - 1, by omega⟩
 have e1 : setR rs (s, s + j + 1) = stR rs[s] ((rs.drop (s + 1)).take j) := by
  unfold setR
  simp only [List.drop_eq_getElem_cons hs]
  rw [show s + j + 1 - s - 1 = j by omega]
 have hdl : (dcs css s (s + j + 1)).length = j + 1 := by rw [qe3 (by omega)]; omega
 have e2 : ttlS rs s (s + j + 1) = leastM rs[s].ttl ((rs.drop (s + 1)).take j) := by
  unfold ttlS
  rw [qch hs, List.drop_eq_getElem_cons hs, show s + j + 1 - s = j + 1 by omega, List.take_succ_cons, qcl]
 show FrSet W base (setC vo rs ⟨((s, s + j + 1), ad, cd), hx1, hx2⟩) (setR rs (s, s + j + 1))
 rw [e1]
 unfold setC
 simp only
 rw [qch hs, e2]
 have hf := hF s hsc hs
 rw [hc s hsc hs] at hf
 obtain ⟨_, _, _, _, _, e5, n1, _⟩ := hf
 simp only [List.cons.injEq, and_true] at e5
 refine ⟨vo s, (ad, s + j + 1 - s, cd), dcs css s (s + j + 1), rfl, by rw [e5.1]; exact n1, OwnK.weaken hd hb, by rw [hdl]; simp [stR]; omega, fun i h1 h2 => ?_⟩
 have hi : i < j + 1 := by rw [hdl] at h1; exact h1
 have hc1 : s + i < css.length := by omega
 have hc2 : s + i < rs.length := by omega
 have ed : (dcs css s (s + j + 1))[i] = css[s + i].drop 2 := by
  simp only [dcs, List.getElem_map, List.getElem_take, List.getElem_drop]
 have er : (stR rs[s] ((rs.drop (s + 1)).take j)).data[i] = rs[s + i].data := by
  cases i with
  | zero => rfl
  | succ i =>
   simp only [stR, List.getElem_cons_succ, List.getElem_map, List.getElem_take, List.getElem_drop]
   congr 2; omega
 rw [ed, er]
 obtain ⟨wo, wn, wu, wt, wr, e6, _, d1⟩ := hF (s + i) hc1 hc2
 exact ⟨wn, wu, wt, wr, by rw [e6]; rfl, d1⟩
def OfPostF (w : World) (s : Option St) (e : Ending) (w' : World) : Prop := ∃ cs, e = .returned (.tuple #[.agg cs.toArray, .bool s.isSome]) ∧ FrSet w' w.heap.size cs (s.getD ⟨[], 0, 0, []⟩) ∧ Below w.heap.size w w'
def SetF (w W : World) (cs : List Value) (s : St) : Prop := ∀ b z0 z1 z2 z3 v0 v1 v2 v3, b < w.heap.size → W.heap[b]? = some (.cells #[z0, z1, z2, z3] 67) → SetR ((((W.setCell ⟨b, 0, none⟩ v0).setCell ⟨b, 1, none⟩ v1).setCell ⟨b, 2, none⟩ v2).setCell ⟨b, 3, none⟩ v3) cs s
def OfPostK (w : World) (s : Option St) (e : Ending) (w' : World) : Prop := ∃ cs, e = .returned (.tuple #[.agg cs.toArray, .bool s.isSome]) ∧ SetR w' cs (s.getD ⟨[], 0, 0, []⟩) ∧ Below w.heap.size w w' ∧ SetF w w' cs (s.getD ⟨[], 0, 0, []⟩)
theorem OfPostF.postK {w w' : World} {s : Option St} {e : Ending} (h : OfPostF w s e w') : OfPostK w s e w' := by
 obtain ⟨cs, h1, h2, h3⟩ := h
 refine ⟨cs, h1, h2.setR, h3, fun b z0 z1 z2 z3 v0 v1 v2 v3 hb _ => ?_⟩
 exact (((((h2.keptX hb (qaf w' b 0 v0)).keptX hb (qaf _ b 1 v1)).keptX hb (qaf _ b 2 v2)).keptX hb (qaf _ b 3 v3))).setR
theorem OfPostK.post {w w' : World} {s : Option St} {e : Ending} (h : OfPostK w s e w') : OfPost w s e w' := by
 obtain ⟨cs, h1, h2, h3, _⟩ := h
 exact ⟨cs, h1, h2, h3⟩
theorem Rcs.snoc {W : World} {css : List (List Value)} {rs : List Rc} {cs : List Value} {r : Rc} (h : Rcs W css rs) (h1 : RcAt W cs r) : Rcs W (css ++ [cs]) (rs ++ [r]) := by
 refine ⟨by simp [h.1], fun i a b => ?_⟩
 by_cases hi : i < css.length
 ·have hi2 : i < rs.length := by have := h.1; omega
  rw [List.getElem_append_left hi, List.getElem_append_left hi2]
  exact h.2 i hi hi2
 ·have e1 : i = css.length := by simp at a; omega
  have e2 : i = rs.length := by have := h.1; omega
  rw [List.getElem_append_right (by omega), List.getElem_append_right (by omega)]
  simpa using h1
theorem qdX {fn : Func} {t u : Tmp} (h : fn.results = #[.cell t 67, .cell u 4]) (tmps : Array Value) (W : World) {a b : Nat} {x0 x1 x2 x3 v : Value} (h0 : x0.oneCell' = true) (h1 : x1.oneCell' = true) (h2 : x2.oneCell' = true) (h3 : x3.oneCell' = true) (hv : v.oneCell' = true)
 (ht : tmps.getD t undef = .pointer (some ⟨a, 0, none⟩)) (hu : tmps.getD u undef = .pointer (some ⟨b, 0, none⟩)) (c0 : W.cell? ⟨a, 0, none⟩ = some x0) (c1 : W.cell? ⟨a, 1, none⟩ = some x1) (c2 : W.cell? ⟨a, 2, none⟩ = some x2) (c3 : W.cell? ⟨a, 3, none⟩ = some x3) (c4 : W.cell? ⟨b, 0, none⟩ = some v) :
 (results fn tmps).run Tryz.prog W = .ok (.tuple #[.agg #[x0, x1, x2, x3], v]) W := by
 have ht' : tmps[t]?.getD undef = .pointer (some ⟨a, 0, none⟩) := by rw [← ht]; simp
 have hv' : tmps[u]?.getD undef = .pointer (some ⟨b, 0, none⟩) := by rw [← hu]; simp
 have hA : ∀ w, Sem.run Tryz.prog (underlying 67) w = .ok _ w := run_underlying Tryz.underlying67
 have hB : ∀ w, Sem.run Tryz.prog (underlying 4) w = .ok _ w := run_underlying Tryz.underlying4
 simp [results, h, ht', hv', loadVar, asAddr, go_sem, hA, hB, c0, c1, c2, c3, c4, isAgg]
def OfI (N B : Nat) (W0 : World) {n : Nat} (pre : List (SegD n)) (W : World) : Prop := pre = [] ∧ KpX N B W0 W ∧ W.heap[B]? = some (.cells #[.slice none 0 0, .int .i64 0, .int .u32 0, .slice none 0 0] 67)
def OfX (N B : Nat) (w : World) (css : List (List Value)) (vo : Nat → Option Addr × Nat × Nat) (L : List Rc) {n : Nat} (c : Code) (pre : List (SegD n)) (W : World) : Prop :=
 c = .ret ∧ ∃ x, pre = [x] ∧ Below w.heap.size w W ∧ W.heap[B]? = some (.cells (setC vo L x).toArray 67) ∧ W.heap[B + 1]? = some (.cells #[.bool true] 4) ∧ DatO N css x W ∧ ∀ j (h1 : j < css.length) (h2 : j < L.length), FrAt W (B + 2) css[j] L[j]
theorem qlm {N B : Nat} {W0 : World} {n : Nat} (hB : B < N) (hn : N ≤ W0.heap.size) : OwnFrom N (OfI (n := n) N B W0) := by
 rintro pre W W' row ⟨h1, h2, h3⟩ hg hr
 exact ⟨h1, h2.trans (KpX.grown (Nat.le_trans hn h2.size) hg (fun r e => .inl (hr r e).1)), (hg.block B (qaa h3) (fun e => by have := (hr B e.symm).1; omega)).trans h3⟩
theorem qlc {N B : Nat} {w : World} {css : List (List Value)} {vo : Nat → Option Addr × Nat × Nat} {L : List Rc} {n : Nat} (c : Code) (hB : B + 1 < N) (hw : w.heap.size ≤ N) : OwnFrom N (OfX (n := n) N B w css vo L c) := by
 rintro pre W W' row ⟨h1, x, h2, h3, h4, h5, h6, h7⟩ hg hr
 exact ⟨h1, x, h2, h3.grown hg h3.size (fun r e => by have := (hr r e).1; omega), (hg.block B (qaa h4) (fun e => by have := (hr B e.symm).1; omega)).trans h4, (hg.block (B + 1) (qaa h5) (fun e => by have := (hr (B + 1) e.symm).1; omega)).trans h5, h6.keptO hg (fun r e => (hr r e).2), fun j a b => (h7 j a b).keptO hg (fun r e => (hr r e).2)⟩
theorem of_fin {N B : Nat} {w W : World} {css : List (List Value)} {vo : Nat → Option Addr × Nat × Nat} {L : List Rc} {n : Nat} {x : SegD n} {v0 v1 v2 v3 z0 z1 z2 z3 z4 : Value} (ecs : setC vo L x = [v0, v1, v2, v3]) (hx6 : W.heap[B]? = some (.cells #[z0, z1, z2, z3] 67)) (hx7 : W.heap[B + 1]? = some (.cells #[z4] 4))
 (hD : DatO N css x W) (hF : ∀ j (h1 : j < css.length) (h2 : j < L.length), FrAt W (B + 2) css[j] L[j]) (hww : Below w.heap.size w W) (hBw : w.heap.size ≤ B) :
 OfX N B w css vo L .ret ([] ++ [x]) (((((W.setCell ⟨B, 0, none⟩ v0).setCell ⟨B, 1, none⟩ v1).setCell ⟨B, 2, none⟩ v2).setCell ⟨B, 3, none⟩ v3).setCell ⟨B + 1, 0, none⟩ (.bool true)) := by
 have q0 := kset hx6 0 v0
 have q1 := kset q0 1 v1
 have q2 := kset q1 2 v2
 have q3 := kset q2 3 v3
 have g0 := qaf W B 0 v0
 have g1 := qaf (W.setCell ⟨B, 0, none⟩ v0) B 1 v1
 have g2 := qaf ((W.setCell ⟨B, 0, none⟩ v0).setCell ⟨B, 1, none⟩ v1) B 2 v2
 have g3 := qaf (((W.setCell ⟨B, 0, none⟩ v0).setCell ⟨B, 1, none⟩ v1).setCell ⟨B, 2, none⟩ v2) B 3 v3
 have g4 := qaf ((((W.setCell ⟨B, 0, none⟩ v0).setCell ⟨B, 1, none⟩ v1).setCell ⟨B, 2, none⟩ v2).setCell ⟨B, 3, none⟩ v3) (B + 1) 0 (.bool true)
 have hne : (some (B + 1) : Option Nat) ≠ some B := fun e => by injection e; omega
 have hne2 : (some B : Option Nat) ≠ some (B + 1) := fun e => by injection e; omega
 have r0 := (g0.block (B + 1) (qaa hx7) hne).trans hx7
 have r1 := (g1.block (B + 1) (qaa r0) hne).trans r0
 have r2 := (g2.block (B + 1) (qaa r1) hne).trans r1
 have r3 := (g3.block (B + 1) (qaa r2) hne).trans r2
 have r4 := kset r3 0 (.bool true)
 have q4 := (g4.block B (qaa q3) hne2).trans q3
 refine ⟨rfl, x, rfl, ?_, ?_, ?_, ?_, ?_⟩
 ·exact ((((hww.setCell (p := ⟨B, 0, none⟩) hBw _).setCell (p := ⟨B, 1, none⟩) hBw _).setCell (p := ⟨B, 2, none⟩) hBw _).setCell (p := ⟨B, 3, none⟩) hBw _).setCell (p := ⟨B + 1, 0, none⟩) (by show w.heap.size ≤ B + 1; omega) _
 ·rw [ecs]; exact q4
 ·exact r4
 ·exact OwnK.keptB (OwnK.keptB (OwnK.keptB (OwnK.keptB (OwnK.keptB hD hx6 (by decide) 0 v0) q0 (by decide) 1 v1) q1 (by decide) 2 v2) q2 (by decide) 3 v3) r3 (by decide) 0 _
 ·intro j h1 h2
  exact (((((hF j h1 h2).keptX (by omega) g0).keptX (by omega) g1).keptX (by omega) g2).keptX (by omega) g3).keptX (by omega) g4
theorem qk6 {B d : Nat} {w W : World} {z0 z1 z2 z3 z4 : Value} (hx6 : W.heap[B]? = some (.cells #[z0, z1, z2, z3] 67)) (hx7 : W.heap[B + 1]? = some (.cells #[z4] 4)) (hww : Below w.heap.size w W) (hBw : w.heap.size ≤ B) {ds : List Deferred} (hd : W.heap[d]? = some (.deferred (some ds))) (h1 : d ≠ B) (h2 : d ≠ B + 1) :
 ∃ W5, ((((W.setCell ⟨B, 0, none⟩ (.slice none 0 0)).setCell ⟨B, 1, none⟩ (.int .i64 0)).setCell ⟨B, 2, none⟩ (.int .u32 0)).setCell ⟨B, 3, none⟩ (.slice none 0 0)).setCell ⟨B + 1, 0, none⟩ (.bool false) = W5 ∧ W5.heap[B]? = some (.cells #[.slice none 0 0, .int .i64 0, .int .u32 0, .slice none 0 0] 67) ∧ W5.heap[B + 1]? = some (.cells #[.bool false] 4) ∧ Below w.heap.size w W5 ∧ W5.heap[d]? = some (.deferred (some ds)) := by
 have q0 := kset hx6 0 (.slice none 0 0)
 have q1 := kset q0 1 (.int .i64 0)
 have q2 := kset q1 2 (.int .u32 0)
 have q3 := kset q2 3 (.slice none 0 0)
 have g0 := qaf W B 0 (.slice none 0 0)
 have g1 := qaf (W.setCell ⟨B, 0, none⟩ (.slice none 0 0)) B 1 (.int .i64 0)
 have g2 := qaf ((W.setCell ⟨B, 0, none⟩ (.slice none 0 0)).setCell ⟨B, 1, none⟩ (.int .i64 0)) B 2 (.int .u32 0)
 have g3 := qaf (((W.setCell ⟨B, 0, none⟩ (.slice none 0 0)).setCell ⟨B, 1, none⟩ (.int .i64 0)).setCell ⟨B, 2, none⟩ (.int .u32 0)) B 3 (.slice none 0 0)
 have g4 := qaf ((((W.setCell ⟨B, 0, none⟩ (.slice none 0 0)).setCell ⟨B, 1, none⟩ (.int .i64 0)).setCell ⟨B, 2, none⟩ (.int .u32 0)).setCell ⟨B, 3, none⟩ (.slice none 0 0)) (B + 1) 0 (.bool false)
 have hne : (some (B + 1) : Option Nat) ≠ some B := fun e => by injection e; omega
 have hne2 : (some B : Option Nat) ≠ some (B + 1) := fun e => by injection e; omega
 have hnd : (some d : Option Nat) ≠ some B := fun e => by injection e; omega
 have hnd2 : (some d : Option Nat) ≠ some (B + 1) := fun e => by injection e; omega
 have r0 := (g0.block (B + 1) (qaa hx7) hne).trans hx7
 have r1 := (g1.block (B + 1) (qaa r0) hne).trans r0
 have r2 := (g2.block (B + 1) (qaa r1) hne).trans r1
 have r3 := (g3.block (B + 1) (qaa r2) hne).trans r2
 have d0 := (g0.block d (qaa hd) hnd).trans hd
 have d1 := (g1.block d (qaa d0) hnd).trans d0
 have d2 := (g2.block d (qaa d1) hnd).trans d1
 have d3 := (g3.block d (qaa d2) hnd).trans d2
 refine ⟨_, rfl, (g4.block B (qaa q3) hne2).trans q3, kset r3 0 (.bool false), ?_, (g4.block d (qaa d3) hnd2).trans d3⟩
 exact ((((hww.setCell (p := ⟨B, 0, none⟩) hBw _).setCell (p := ⟨B, 1, none⟩) hBw _).setCell (p := ⟨B, 2, none⟩) hBw _).setCell (p := ⟨B, 3, none⟩) hBw _).setCell (p := ⟨B + 1, 0, none⟩) (by show w.heap.size ≤ B + 1; omega) _
section
attribute [local go_sem] Oper.semAt_some
theorem qkE (v1 : Option Addr) (n c : Nat) (vo : Value) (o : Nm) (t : Int) (css : List (List Value)) (rs : List Rc) (w : World) (hA : SlK w (.slice v1 n c) css) (hR : Rcs w css rs) (hOK : ∀ r ∈ rs, RcOK r) (hO : NmAt w vo o) (hko : NmOK o) (hl : n ≤ 1048576) :
 Calls Tryz.prog 46 #[.slice v1 n c, vo, .int .i64 t] w (OfPostF w (ofM rs o t)) := by
 obtain ⟨hln, hx⟩ : css.length = n ∧ n ≤ c := by
  obtain ⟨a', c', e, h1, _⟩ := id hA
  cases e; exact ⟨rfl, h1⟩
 have HN := qH0 (fun (k : Nat) (u : Value) (W : World) (h1 : k < rs.length) (hu : NmAt W u rs[k].owner) (hb : Below w.heap.size w W) => qbW u vo rs[k].owner o _ rfl W hu (hO.below hb) (hOK _ (List.getElem_mem h1)).1 hko)
 obtain ⟨ao, co, rfl, -⟩ := nmAt_sl.1 hO
 have HA := qH0 hA; have HR := qH0 hR; have HLN := qH0 hln; have HOK := qH0 hOK
 have HDL := qH0 (show rs.length = n by rw [← hR.1]; exact hln)
 obtain ⟨qo, hqo⟩ : ∃ q, (List.map strV o).length = q := ⟨_, rfl⟩
 rw [hqo] at HN ⊢
 clear hA hR hOK hln hO hko hqo
 refine (callsIn_wide (n := 8)).1 ?_
 refine callsIn_of_wp_marks Tryz.func46 rfl trivial ?_ rfl
 simp only [Tryz.ntmps46, List.size_toArray, List.length_cons, List.length_nil, Nat.reduceAdd, Nat.reduceSub, Array.replicate_succ, Array.replicate_zero, List.push_toArray, List.append_toArray, List.nil_append, List.cons_append]
 refine wpIn_wide.2 ?_
 go_wp2
 have HB0 := qH0 (((Below.refl w.heap.size w).alloc (qN0) (.cells #[.slice none 0 0, .int .i64 0, .int .u32 0, .slice none 0 0] 67)).alloc (by simp) (.cells #[.bool false] 4))
 have X6 := qH0 ((Below.heap_alloc (w.alloc (.cells #[.slice none 0 0, .int .i64 0, .int .u32 0, .slice none 0 0] 67)) (.cells #[.bool false] 4) w.heap.size (by simp)).trans (knew w (.cells #[.slice none 0 0, .int .i64 0, .int .u32 0, .slice none 0 0] 67)))
 have X7 := qH0 (knew (w.alloc (.cells #[.slice none 0 0, .int .i64 0, .int .u32 0, .slice none 0 0] 67)) (.cells #[.bool false] 4))
 rw [World.size_alloc] at X7
 have HZ0 := qH0 (show ((w.alloc (.cells #[.slice none 0 0, .int .i64 0, .int .u32 0, .slice none 0 0] 67)).alloc (.cells #[.bool false] 4)).heap.size = w.heap.size + 2 by simp)
 generalize (w.alloc (.cells #[.slice none 0 0, .int .i64 0, .int .u32 0, .slice none 0 0] 67)).alloc (.cells #[.bool false] 4) = W0 at *
 go_loopw [8, 14] (fun v3 vi wr => ∃ (k : Nat) (ga : Option Addr) (gn gc : Nat) (csw : List (List Value)), v3 = .slice ga gn gc ∧ vi = .int .i64 k ∧ k ≤ n ∧ Hid (OwnC 7 47 wr W0.heap.size (.slice ga gn gc) csw) ∧ Hid (Rcs w csw ((rs.take k).filter (belM o t))) ∧ Hid (Below W0.heap.size W0 wr)) (fun _ vi _ => n - (intOf vi).toNat)
 case atStart => exact ⟨0, none, 0, 0, [], rfl, rfl, Nat.zero_le _, qH0 (OwnK.nil _ _), qH0 ⟨rfl, fun i a => absurd a (by simp)⟩, qH0 (Below.refl _ W0)⟩
 case round =>
  obtain ⟨k, ga, gn, gc, csw, rfl, rfl, hk, HO, HRw, HB⟩ := hrel
  by_cases hlt : k < n
  ·have hltz : (k : Int) < (n : Int) := by omega
   have hk1 : k < css.length := by have := HLN.out; omega
   have hk2 : k < rs.length := by have := HDL.out; omega
   have hwr : Below w.heap.size w wr := HB0.out.trans (HB.out.mono (by have := HZ0.out; omega))
   obtain ⟨b, off, rfl, hb, hel⟩ := HA.out.elem HR.out.ck (by omega)
   have h0 := HR.out.2 k hk1 hk2
   have htk := qhk (o := o) (t := t) hk2
   have hnk := fun u W => HN.out k u W hk2
   obtain ⟨d, hd⟩ : ∃ d, rs[k]'hk2 = d := ⟨_, rfl⟩
   rw [hd] at h0 htk
   simp only [hd] at hnk
   have hsh := h0.shape
   obtain ⟨⟨p0, q0, k0⟩, ⟨p3, q3, k3⟩, ⟨p4, q4, k4⟩, ⟨p5, q5, k5⟩, ⟨p6, q6, k6⟩, e0⟩ := hsh
   simp only at e0
   obtain ⟨c0', c1, c2, c3, c4, c5, c6⟩ := hel k hk1 _ _ _ _ _ _ _ e0 wr hwr
   have hown0 : NmAt w (.slice p0 q0 k0) d.owner := by
    obtain ⟨_, _, _, _, _, e5, g1, _⟩ := h0
    rw [e0] at e5
    simp only [List.cons.injEq, and_true] at e5
    rw [e5.1]; exact g1
   rw [e0] at h0
   have HD0 := qH0 h0
   have HBB := qH0 (HB.out.alloc HB.out.size (.cells #[.slice p0 q0 k0, .int .u32 (d.ttl : Int), .int .i64 d.data.ty, .slice p3 q3 k3, .slice p4 q4 k4, .slice p5 q5 k5, .slice p6 q6 k6] 47))
   have HBW := qH0 (hwr.alloc hwr.size (.cells #[.slice p0 q0 k0, .int .u32 (d.ttl : Int), .int .i64 d.data.ty, .slice p3 q3 k3, .slice p4 q4 k4, .slice p5 q5 k5, .slice p6 q6 k6] 47))
   have hn := hnk _ _ (hown0.below HBW.out) HBW.out
   have HO1 := qH0 (OwnK.below HO.out ((Below.refl _ wr).alloc (qN0) (.cells #[.slice p0 q0 k0, .int .u32 (d.ttl : Int), .int .i64 d.data.ty, .slice p3 q3 k3, .slice p4 q4 k4, .slice p5 q5 k5, .slice p6 q6 k6] 47)))
   have X1 := qH0 (knew wr (.cells #[.slice p0 q0 k0, .int .u32 (d.ttl : Int), .int .i64 d.data.ty, .slice p3 q3 k3, .slice p4 q4 k4, .slice p5 q5 k5, .slice p6 q6 k6] 47))
   have HTK := qH0 htk
   have HBE := qH0 (show belM o t d = (decide (d.data.ty = t) && sameN d.owner o) from rfl)
   generalize belM o t d = res at *
   clear h0 htk hd e0 hown0 hk1 hk2 hel hnk HO HB hwr
   generalize (d.ttl : Int) = tr at *
   generalize d.data.ty = ty at *
   by_cases hty : ty = t
   ·subst hty
    have HR1 : Hid (res = sameN d.owner o) := qH0 (by rw [HBE.out]; simp)
    clear HBE
    go_wp2_with fail
    refine hn.mono ?_
    rintro e w2 ⟨rfl, hbb2⟩
    have HB2 := qH0 (qB0 HBB.out hbb2)
    have hblk := (hbb2.block wr.heap.size (by simp)).trans X1.out
    have y0 := kcell hblk 0 _ rfl; have y1 := kcell hblk 1 _ rfl; have y2 := kcell hblk 2 _ rfl; have y3 := kcell hblk 3 _ rfl; have y4 := kcell hblk 4 _ rfl; have y5 := kcell hblk 5 _ rfl; have y6 := kcell hblk 6 _ rfl
    have HO2 := qH0 (OwnK.below HO1.out hbb2)
    have hz2 := HB2.out.size
    have HTL := qH0 (show csw.length ≤ 1048576 by have := HRw.out.1; have h2 := List.length_filter_le (belM o ty) (rs.take k); rw [List.length_take] at h2; omega)
    clear hbb2 hblk hn HBB HO1 X1 c0' c1 c2 c3 c4 c5 c6
    by_cases hs : sameN d.owner o = true
    ·rw [hs] at HR1 ⊢
     have HT : Hid ((rs.take (k + 1)).filter (belM o ty) = (rs.take k).filter (belM o ty) ++ [d]) := qH0 (by rw [HTK.out, HR1.out]; simp)
     have HRw2 : Hid (Rcs w (csw ++ [[.slice p0 q0 k0, .int .u32 tr, .int .i64 ty, .slice p3 q3 k3, .slice p4 q4 k4, .slice p5 q5 k5, .slice p6 q6 k6]]) ((rs.take (k + 1)).filter (belM o ty))) := qH0 (by rw [HT.out]; exact HRw.out.snoc HD0.out)
     clear HTK hs HT HRw HD0 HR1
     go_wp2_with (at_builtin; refine qdb w2 rfl (.tmp 29) (.tmp 31) qcT (by decide) rfl W0.heap.size (.slice ga gn gc) csw rfl HO2.out [.slice p0 q0 k0, .int .u32 tr, .int .i64 ty, .slice p3 q3 k3, .slice p4 q4 k4, .slice p5 q5 k5, .slice p6 q6 k6] rfl (by intro u hu; simp only [List.mem_cons, List.not_mem_nil, or_false] at hu; rcases hu with rfl | rfl | rfl | rfl | rfl | rfl | rfl <;> rfl) 1 (by rfl) hz2 (by have := HTL.out; unfold maxLen; omega) (by have := HTL.out; omega) ?_; intro v3 w3 hown3 hg3)
     have HB3 := qH0 (HB2.out.grown hg3 hz2 (OwnK.base_le HO2.out))
     obtain ⟨a9, c9, e9⟩ := OwnK.shape hown3
     subst e9
     have HO3 := qH0 hown3
     generalize List.length (csw ++ _) = m9 at *
     clear hg3 hown3
     go_roundw
     case measure => simp [intOf]; omega
     case rel => exact ⟨k + 1, a9, m9, c9, _, rfl, by go_num, by omega, HO3, HRw2, HB3⟩
    ·simp only [Bool.not_eq_true] at hs
     rw [hs] at HR1 ⊢
     have HTK2 : Hid ((rs.take (k + 1)).filter (belM o ty) = (rs.take k).filter (belM o ty)) := qH0 (by rw [HTK.out, HR1.out]; simp)
     have HRw2 : Hid (Rcs w csw ((rs.take (k + 1)).filter (belM o ty))) := qH0 (by rw [HTK2.out]; exact HRw.out)
     clear HTK HTK2 HR1 HRw hs
     go_wp2
     go_roundw
     case measure => simp [intOf]; omega
     case rel => exact ⟨k + 1, ga, gn, gc, csw, rfl, by go_num, by omega, HO2, HRw2, HB2⟩
   ·have hxb : (ty == t) = false := by simpa using hty
    have HR1 : Hid (res = false) := qH0 (by rw [HBE.out]; simp [hty])
    clear HBE hn
    have HTK2 : Hid ((rs.take (k + 1)).filter (belM o t) = (rs.take k).filter (belM o t)) := qH0 (by rw [HTK.out, HR1.out]; simp)
    have HRw2 : Hid (Rcs w csw ((rs.take (k + 1)).filter (belM o t))) := qH0 (by rw [HTK2.out]; exact HRw.out)
    clear HTK HTK2 HR1 HRw
    go_wp2
    go_roundw
    case measure => simp [intOf]; omega
    case rel => exact ⟨k + 1, ga, gn, gc, csw, rfl, by go_num, by omega, HO1, HRw2, HBB⟩
  ·obtain rfl : k = n := by omega
   have h := HRw.out
   rw [List.take_of_length_le (by have := HDL.out; omega)] at h
   have HH := qH0 h
   clear h HRw
   have hwr : Below w.heap.size w wr := HB0.out.trans (HB.out.mono (by have := HZ0.out; omega))
   have hC := qdr (.slice ga gn gc) csw (rs.filter (belM o t)) wr (SlK.of_own HO.out HH.out.ck) (HH.out.below hwr) (fun r hr => HOK.out r (List.mem_filter.1 hr).1) (by have := HH.out.1; have h2 := List.length_filter_le (belM o t) rs; have := HDL.out; omega)
   have HFL := qH0 (show (rs.filter (belM o t)).length ≤ 1048576 by have h2 := List.length_filter_le (belM o t) rs; have := HDL.out; omega)
   have HOKL := qH0 (qbv (rs.filter (belM o t)) (fun r hr => HOK.out r (List.mem_filter.1 hr).1))
   have HOF := qH0 (show ofM rs o t = (setsM (canonM (rs.filter (belM o t)))).head? from rfl)
   obtain ⟨L, hL⟩ : ∃ L, canonM (rs.filter (belM o t)) = L := ⟨_, rfl⟩
   unfold qcA at hC
   have HLn := qH0 (show L.length ≤ 1048576 by rw [← hL]; have := qaD (rs.filter (belM o t)); have := HFL.out; omega)
   rw [hL] at hC HOKL HOF
   generalize ofM rs o t = res at *
   clear hwr HH HO HFL hL HN HA HR HOK
   go_wp2_with fail
   refine hC.mono ?_
   rintro e w1 ⟨v2, css2, rfl, ho1, hl1, hf1, hb1⟩
   obtain ⟨a1, c1, rfl⟩ := OwnK.shape ho1
   obtain ⟨m, hm⟩ : ∃ m, css2.length = m := ⟨_, rfl⟩
   rw [hm] at ho1 hl1 ⊢
   have HO1 := qH0 ho1; have HL1 := qH0 hl1; have HF1 := qH0 hf1; have HB1 := qH0 hb1; have HM := qH0 hm
   clear ho1 hl1 hf1 hb1 hC hm
   go_wp2_with fail
   refine (qfz _ _ _ _).mono ?_
   rintro e w2 ⟨rfl, rfl⟩
   go_wp2
   refine (wpIn_wide (n := 8)).1 ?_
   obtain ⟨B, hB⟩ : ∃ B, w.heap.size = B := ⟨_, rfl⟩
   obtain ⟨W2, hW2⟩ : ∃ W2, w1.alloc (.cells #[.slice a1 m c1] 24) = W2 := ⟨_, rfl⟩
   obtain ⟨N, hN⟩ : ∃ N, W2.heap.size = N := ⟨_, rfl⟩
   have hsz : N = w1.heap.size + 1 := by rw [← hN, ← hW2]; simp
   have hs0 : B + 2 ≤ wr.heap.size := by have h1 := HZ0.out; have h2 := HB.out.size; omega
   have hs1 : wr.heap.size ≤ w1.heap.size := HB1.out.size
   have hB12 : Below w1.heap.size w1 W2 := by rw [← hW2]; exact (Below.refl _ w1).alloc (qN0) _
   have hB02 : Below W0.heap.size W0 W2 := (qB0 HB.out HB1.out).trans (hB12.mono (by have := HB.out.size; omega))
   have hw2 : Below w.heap.size w W2 := HB0.out.trans (hB02.mono (by have := HZ0.out; omega))
   have b1 : Boxed W2 w1.heap.size 24 (.slice a1 m c1) := by rw [← hW2]; exact Boxed.new w1 _ _
   have x6 : W2.heap[B]? = some (.cells #[.slice none 0 0, .int .i64 0, .int .u32 0, .slice none 0 0] 67) := by
    rw [← hB]; exact (hB02.block _ (by have := HZ0.out; omega)).trans X6.out
   have x7 : W2.heap[B + 1]? = some (.cells #[.bool false] 4) := by
    rw [← hB]; exact (hB02.block _ (by have := HZ0.out; omega)).trans X7.out
   have hml : m = L.length := HL1.out
   have hmb : m ≤ 1048576 := by have := HLn.out; omega
   have hm := HM.out
   have hfr : ∀ j (h1 : j < css2.length) (h2 : j < L.length), FrAt W2 (B + 2) css2[j] L[j] := fun j h1 h2 => ((HF1.out j h1 h2).below hB12).weaken hs0
   have hfrK : ∀ W, KpX N B W2 W → ∀ j (h1 : j < css2.length) (h2 : j < L.length), FrAt W (B + 2) css2[j] L[j] := fun W hK j h1 h2 => (hfr j h1 h2).keptX (by omega) (hK.grownX hN.symm)
   have hst : ∀ W, KpX N B W2 W → Rcs W css2 L := fun W hK => ⟨by rw [hm]; exact hml, fun i h1 h2 => (hfrK W hK i h1 h2).rcAt⟩
   have hsl : SlK W2 (.slice a1 m c1) css2 := (SlK.of_own HO1.out (fun cs hc => by
    obtain ⟨i, hi, rfl⟩ := List.mem_iff_getElem.1 hc
    exact (HF1.out i hi (by omega)).rcAt.len)).below hB12
   have hown : ∀ b, (Value.slice a1 m c1).ownBlock = some b → b ≠ B := fun b e => by
    have := OwnK.base_le HO1.out b e
    omega
   obtain ⟨vo, vn, vu, vt, vr, hc⟩ := qeY (hst W2 (KpX.refl _ _ _))
   have HSEQ := qH0 (qeW N B W2 a1 m c1 w1.heap.size css2 L vo vn vu vt vr hsl hm hmb hst HOKL.out hN.symm (by omega) (by omega) hown b1 hc)
   rw [hB, hW2]
   have HSZ := qH0 hsz; have HS0 := qH0 hs0; have HS1 := qH0 hs1; have HW2 := qH0 hw2; have HBb := qH0 hB; have HN := qH0 hN; have HFK := qH0 hfrK; have HCC := qH0 hc; have Y6 := qH0 x6; have Y7 := qH0 x7; have HML := qH0 hml
   clear hsz hs0 hs1 hw2 hB hN hst hmb hc hfr hsl hown hml HF1 HO1 HB1 hm hfrK x6 x7 hB12 hB02 b1 hW2 HB HB0 X6 X7
   refine qck rfl (by omega) (gf := 96) (lb := #[.pointer (some ⟨w1.heap.size, 0, none⟩)]) rfl trivial (enters_of Tryz.func96 (by kernel_rfl) rfl)
    HSEQ.out (fun h k => h.trans k)
    (fun W l o o' hl h h1 h2 => ⟨rfl, rfl, rfl, by simp, fun k a b => World.putObj_heap_other (by have := HN.out; omega)⟩) (qL0) (fun _ => rfl)
    (OfI N B W2) (OfX N B w css2 vo L) (by rw [HN.out]; exact qlm (by have := HSZ.out; have := HS0.out; have := HS1.out; omega) (by rw [HN.out]; omega)) (fun c => by rw [HN.out]; exact qlc c (by have := HSZ.out; have := HS0.out; have := HS1.out; omega) (by have := HSZ.out; have := HS0.out; have := HS1.out; have := HBb.out; omega))
    ⟨rfl, KpX.refl _ _ _, Y6.out⟩
    (fun x a' W => ∃ b, a' = { tmps := #[.slice v1 k c, .slice ao qo co, .int .i64 t, undef, undef, undef, .pointer (some ⟨B, 0, none⟩), .pointer (some ⟨B + 1, 0, none⟩), .slice ga gn gc, undef, u10, .pointer (some ⟨b, 0, none⟩), .slice v1 k c, .int .i64 k, .int .i64 k, .bool false, u16, u17, u18, u19, u20, u21, u22, u23, u24, u25, u26, u27, u28, u29, u30, u31, u32, u33, .slice ga gn gc, .slice a1 m c1, .func (.func 96) #[] #[.pointer (some ⟨w1.heap.size, 0, none⟩)], .agg (setC vo L x).toArray, undef, undef], defers := [] } ∧ W2.heap.size ≤ b ∧ W.heap[b]? = some (.cells (setC vo L x).toArray 67) ∧ DatO N css2 x W)
    (fun a' x W W' row ⟨b, ha, hb, hx, hd⟩ hg hr => ⟨b, ha, hb, (hg.block b (qaa hx) (fun e => by obtain ⟨_, o, ho, hcell⟩ := hr b e.symm; rw [hx] at ho; cases ho; cases hcell)).trans hx, hd.keptO hg (fun r e => (hr r e).2)⟩) ?assign ?body ?done ?stop
   case assign =>
    intro l pre x W K hi hd hK
    have hNW : N ≤ W.heap.size := by rw [← HN.out]; exact hi.2.1.size
    have hbA : ∀ o, Below W.heap.size W (W.alloc o) := fun o => (Below.refl _ W).alloc (qN0) o
    unfold setV
    gi_wp2
    exact hK _ _ ((KeepsOthers.of_below (hbA _)).from _) (KpX.of_below hNW (hbA _)) ⟨hi.1, hi.2.1.trans (KpX.of_below hNW (hbA _)), ((hbA _).block B (qaa hi.2.2)).trans hi.2.2⟩ ⟨W.heap.size, rfl, by rw [HN.out]; exact hNW, knew W _, OwnK.below hd (hbA _)⟩
   case body =>
    rintro l pre x a' W ⟨rfl, hK, hx6⟩ ⟨b, rfl, hb, hbx, hdx⟩ hlt
    have hNW : N ≤ W.heap.size := by rw [← HN.out]; exact hK.size
    have hBN : B + 2 ≤ N := by have := HSZ.out; have := HS0.out; have := HS1.out; omega
    have hx7 : W.heap[B + 1]? = some (.cells #[.bool false] 4) := (hK.block (B + 1) (by omega) (by omega)).trans Y7.out
    have hfr := HFK.out W hK
    have hww : Below w.heap.size w W := HW2.out.trans (hK.below (by have := HBb.out; omega) (by have := HBb.out; omega))
    have hcs : ∃ p0 q0 k0 t1 t2 p3 q3 k3, setC vo L x = [.slice p0 q0 k0, .int .i64 t1, .int .u32 t2, .slice p3 q3 k3] := ⟨_, _, _, _, _, _, _, _, rfl⟩
    obtain ⟨p0, q0, k0, t1, t2, p3, q3, k3, ecs⟩ := hcs
    have HEC := qH0 ecs
    rw [ecs] at hbx
    have y0 := kcell hbx 0 _ rfl; have y1 := kcell hbx 1 _ rfl; have y2 := kcell hbx 2 _ rfl; have y3 := kcell hbx 3 _ rfl
    have z0 := kcell hx6 0 _ rfl; have z1 := kcell hx6 1 _ rfl; have z2 := kcell hx6 2 _ rfl; have z3 := kcell hx6 3 _ rfl; have z4 := kcell hx7 0 _ rfl
    have f0 := qag hx6 0; have f1 := qag hx6 1; have f2 := qag hx6 2; have f3 := qag hx6 3; have f4 := qag hx7 0
    have HD := qH0 hdx; have HF := qH0 hfr; have HWW := qH0 hww; have HX6 := qH0 hx6; have HX7 := qH0 hx7; have HNW := qH0 hNW
    rw [ecs]
    clear hbx hdx hfr hww hx6 hx7 ecs hNW HSEQ hK
    gi_wp2
    exact ⟨(((((KeepsOthers.setCell _ _ _).trans (KeepsOthers.setCell _ _ _)).trans (KeepsOthers.setCell _ _ _)).trans (KeepsOthers.setCell _ _ _)).trans (KeepsOthers.setCell _ _ _)).from _, of_fin HEC.out HX6.out HX7.out HD.out HF.out HWW.out (by rw [HBb.out]; exact qN0)⟩
   case done =>
    rintro d xs W hd hxs ⟨rfl, hK, hx6⟩ hD0
    have hDN : N ≤ d := by rw [HN.out] at hd; exact hd
    have hBN : B + 2 ≤ N := by have := HSZ.out; have := HS0.out; have := HS1.out; omega
    have hx7 : W.heap[B + 1]? = some (.cells #[.bool false] 4) := (hK.block (B + 1) (by omega) (by omega)).trans Y7.out
    have hww : Below w.heap.size w W := HW2.out.trans (hK.below (by have := HBb.out; omega) (by have := HBb.out; omega))
    have HRES : Hid (res = none) := qH0 (by
     rw [HOF.out, ← qcw, ← hxs]; rfl)
    have hBw : w.heap.size ≤ B := by rw [HBb.out]; exact qN0
    have z0 := kcell hx6 0 _ rfl; have z1 := kcell hx6 1 _ rfl; have z2 := kcell hx6 2 _ rfl; have z3 := kcell hx6 3 _ rfl; have z4 := kcell hx7 0 _ rfl
    have f0 := qag hx6 0; have f1 := qag hx6 1; have f2 := qag hx6 2; have f3 := qag hx6 3; have f4 := qag hx7 0
    obtain ⟨W5, hW5, k6, k7, k8, k9⟩ := qk6 hx6 hx7 hww hBw hD0 (by omega) (by omega)
    have e6 : (W5.putObj d (.deferred none)).heap[B]? = _ := (World.putObj_heap_other (by omega)).trans k6
    have e7 : (W5.putObj d (.deferred none)).heap[B + 1]? = _ := (World.putObj_heap_other (by omega)).trans k7
    have HWW : Hid (Below w.heap.size w (W5.putObj d (.deferred none))) := qH0 (qal k8 (show w.heap.size ≤ d by omega) (qN0))
    have c0 := kcell e6 0 _ rfl; have c1' := kcell e6 1 _ rfl; have c2 := kcell e6 2 _ rfl; have c3 := kcell e6 3 _ rfl; have c4 := kcell e7 0 _ rfl
    have HC0 := qH0 c0; have HC1 := qH0 c1'; have HC2 := qH0 c2; have HC3 := qH0 c3; have HC4 := qH0 c4
    have HW5 := qH0 hW5; have HK9 := qH0 k9
    clear hx6 hx7 hK e6 e7 c0 c1' c2 c3 c4 hww hxs hW5 k6 k7 k8 k9 hD0
    go_wp2
    rw [HW5.out]
    refine ⟨by simp, .inl ⟨_, _, rfl, run_takeDeferred HK9.out, ?_⟩⟩
    refine ⟨_, qdX rfl _ _ rfl rfl rfl rfl rfl rfl rfl HC0.out HC1.out HC2.out HC3.out HC4.out, ?_⟩
    rw [HRES.out]
    exact ⟨_, rfl, qix _ _, HWW.out⟩
   case stop =>
    rintro d c3 pre W hd hp hX hK
    obtain ⟨rfl, x, rfl, hww, hx6, hx7, hdx, hfr⟩ := hX
    have hcs : ∃ p0 q0 k0 t1 t2 p3 q3 k3, setC vo L x = [.slice p0 q0 k0, .int .i64 t1, .int .u32 t2, .slice p3 q3 k3] := ⟨_, _, _, _, _, _, _, _, rfl⟩
    obtain ⟨p0, q0, k0, t1, t2, p3, q3, k3, ecs⟩ := hcs
    have HEC := qH0 ecs
    rw [ecs] at hx6
    have hr : ∀ r, some d = some r → ∃ o : Obj, W.heap[r]? = some o ∧ o.isCells = false := fun r e => by cases e; exact ⟨_, hK, rfl⟩
    have hg := grownBy_putObj' W d (.deferred none)
    have hDN : N ≤ d := by rw [HN.out] at hd; exact hd
    have hBN : B + 2 ≤ N := by have := HSZ.out; have := HS0.out; have := HS1.out; omega
    have e6 : (W.putObj d (.deferred none)).heap[B]? = _ := (World.putObj_heap_other (by omega)).trans hx6
    have e7 : (W.putObj d (.deferred none)).heap[B + 1]? = _ := (World.putObj_heap_other (by omega)).trans hx7
    have HS : Hid (FrSet (W.putObj d (.deferred none)) w.heap.size (setC vo L x) (setR L x.1.1)) := qH0 (qkq HM.out (by rw [HM.out]; exact HML.out) (by have := HBb.out; omega) (fun j h1 h2 => ((hfr j h1 h2).keptO hg hr).weaken (by have := HBb.out; omega)) HCC.out x (OwnC.keptO hdx hg hr))
    have HRES : Hid (res = some (setR L x.1.1)) := qH0 (by
     obtain ⟨t', ht'⟩ := hp
     rw [HOF.out, ← qcw, ← ht']; rfl)
    have HWW : Hid (Below w.heap.size w (W.putObj d (.deferred none))) := qH0 (qal hww (show w.heap.size ≤ d by have := HBb.out; omega) (qN0))
    rw [HEC.out] at HS
    have c0 := kcell e6 0 _ rfl; have c1' := kcell e6 1 _ rfl; have c2 := kcell e6 2 _ rfl; have c3 := kcell e6 3 _ rfl; have c4 := kcell e7 0 _ rfl
    have HC0 := qH0 c0; have HC1 := qH0 c1'; have HC2 := qH0 c2; have HC3 := qH0 c3; have HC4 := qH0 c4
    clear hx6 hx7 hdx hfr ecs hr hg e6 e7 c0 c1' c2 c3 c4 hww
    gi_wp2
    refine ⟨by simp, .inl ⟨_, _, rfl, run_takeDeferred hK, ?_⟩⟩
    refine ⟨_, qdX rfl _ _ rfl rfl rfl rfl rfl rfl rfl HC0.out HC1.out HC2.out HC3.out HC4.out, ?_⟩
    rw [HRES.out]
    exact ⟨_, rfl, HS.out, HWW.out⟩
end
theorem qkb (v1 : Option Addr) (n c : Nat) (vo : Value) (o : Nm) (t : Int) (css : List (List Value)) (rs : List Rc) (w : World) (hA : SlK w (.slice v1 n c) css) (hR : Rcs w css rs) (hOK : ∀ r ∈ rs, RcOK r) (hO : NmAt w vo o) (hko : NmOK o) (hl : n ≤ 1048576) :
 Calls Tryz.prog 46 #[.slice v1 n c, vo, .int .i64 t] w (OfPostK w (ofM rs o t)) :=
 (qkE v1 n c vo o t css rs w hA hR hOK hO hko hl).mono fun _ _ h => h.postK
theorem qk9 (v1 : Option Addr) (n c : Nat) (vo : Value) (o : Nm) (t : Int) (css : List (List Value)) (rs : List Rc) (w : World) (hA : SlK w (.slice v1 n c) css) (hR : Rcs w css rs) (hOK : ∀ r ∈ rs, RcOK r) (hO : NmAt w vo o) (hko : NmOK o) (hl : n ≤ 1048576) :
 Calls Tryz.prog 46 #[.slice v1 n c, vo, .int .i64 t] w (OfPost w (ofM rs o t)) :=
 (qkb v1 n c vo o t css rs w hA hR hOK hO hko hl).mono fun _ _ h => h.post
end Go.Proofs.YtnpnfajgphpabaaGreat
namespace Go.Proofs.YtnpnfajgphpabaaGreat
set_option linter.unusedVariables false
set_option linter.unusedSimpArgs false
set_option maxRecDepth 100000
set_option maxHeartbeats 8000000
open Go.RowKit Go.Shelf
def checkR (r : Rc) : Int := if checkN r.owner ≠ 0 then checkN r.owner else if 2147483647 < r.ttl then 7 else checkD r.data
theorem qge (v : Value) (d : Dat) (w : World) (hA : DatAt w v d) (hk : DatOK d) :
 Calls Tryz.prog 75 #[v] w (qdK d w) := by
 have hCt := fun W => qio d.ty W
 unfold qc5 at hCt
 obtain ⟨vn, vu, vt, vr, rfl, ⟨vs, s1, sl, s2⟩, a2, a3, a4⟩ := id hA
 obtain ⟨an, cn, rfl, _⟩ := id s1
 obtain ⟨au, cu, rfl, _⟩ := id a2
 obtain ⟨ax, cx, rfl, _⟩ := id a3.1
 obtain ⟨ar, cr, rfl, _⟩ := id a4
 rw [List.length_map] at hA ⊢
 rw [List.length_map] at hA ⊢
 obtain ⟨t, ht⟩ : ∃ t, d.ty = t := ⟨_, rfl⟩
 obtain ⟨n1, hn1⟩ : ∃ n, vs.length = n := ⟨_, rfl⟩
 obtain ⟨n2, hn2⟩ : ∃ n, d.nums.length = n := ⟨_, rfl⟩
 obtain ⟨n3, hn3⟩ : ∃ n, d.texts.length = n := ⟨_, rfl⟩
 obtain ⟨n4, hn4⟩ : ∃ n, d.raw.length = n := ⟨_, rfl⟩
 have hnm : ∀ W, Below w.heap.size w W → ∀ j (h1 : j < vs.length) (h2 : j < d.names.length), NmAt W vs[j] d.names[j] := fun W hb j h1 _ => (s2 j h1).below hb
 have hcn := fun W (hb : Below w.heap.size w W) j (hj : j < vs.length) => s1.cell hb j hj
 have hcu := fun W (hb : Below w.heap.size w W) j (hj : j < (d.nums.map u32V).length) => a2.cell hb j hj
 have hcx := fun W (hb : Below w.heap.size w W) j (hj : j < d.texts.length) => a3.1.cell hb j hj
 rw [ht, hn1, hn2, hn3, hn4] at hA ⊢
 rw [ht] at hCt
 obtain ⟨⟨c1, c2, c3⟩, hc⟩ : ∃ c, qaZ t = c := ⟨_, rfl⟩
 rw [hc] at hCt
 simp only at hCt
 have hb0 : Below w.heap.size w (w.alloc (.cells #[.int .i64 t, .slice an n1 cn, .slice au n2 cu, .slice ax n3 cx, .slice ar n4 cr] 87)) := (Below.refl _ w).alloc (qN0) _
 by_cases hty : t < 1 ∨ 65535 < t
 ·have H0 := qH0 (qhs (d := d) (by rw [ht]; exact hty))
  have ht2 : t < 1 ∨ (¬ t < 1 ∧ 65535 < t) := by omega
  have HB0 := qH0 hb0
  clear hty hCt hc hnm hcn hcu hcx s1 s2 sl a2 a3 a4 ht hn1 hn2 hn3 hn4 hk hA hb0
  rcases ht2 with h1 | ⟨h1, h2⟩
  all_goals
   go_enter Tryz.func75, Tryz.ntmps75
   go_wp2
   go_ret
   exact qaG 6 H0.out rfl HB0.out
 have h1 : ¬ t < 1 := by omega
 have h2 : ¬ 65535 < t := by omega
 have hcd : qbm d = decide ((n1 : Int) = c1 ∧ (n2 : Int) = c2 ∧ (if t = 16 then 1 ≤ n3 ∧ n3 ≤ 32 else n3 = 0) ∧ (0 ≤ c3 → (n4 : Int) = c3)) := by
  unfold qbm
  rw [ht, hc, hn2, hn3, hn4, ← sl, hn1]
 have hT : ((t == 16) = true ∧ ¬ (1 : Int) ≤ (n3 : Int)) ∨ ((t == 16) = true ∧ (1 : Int) ≤ (n3 : Int) ∧ ¬ (n3 : Int) ≤ 32) ∨ ((t == 16) = false ∧ ((n3 : Int) == 0) = false)
  ∨ ((t == 16) = true ∧ (1 : Int) ≤ (n3 : Int) ∧ (n3 : Int) ≤ 32 ∧ Hid (if t = 16 then 1 ≤ n3 ∧ n3 ≤ 32 else n3 = 0)) ∨ ((t == 16) = false ∧ ((n3 : Int) == 0) = true ∧ Hid (if t = 16 then 1 ≤ n3 ∧ n3 ≤ 32 else n3 = 0)) := by
  by_cases h16 : t = 16
  ·have e : (t == 16) = true := by simpa using h16
   by_cases g1 : 1 ≤ n3
   ·by_cases g2 : n3 ≤ 32
    ·exact .inr (.inr (.inr (.inl ⟨e, by omega, by omega, qH0 (by rw [if_pos h16]; exact ⟨g1, g2⟩)⟩)))
    ·exact .inr (.inl ⟨e, by omega, by omega⟩)
   ·exact .inl ⟨e, by omega⟩
  ·have e : (t == 16) = false := by simpa using h16
   by_cases g1 : n3 = 0
   ·exact .inr (.inr (.inr (.inr ⟨e, by simpa using g1, qH0 (by rw [if_neg h16]; exact g1)⟩)))
   ·exact .inr (.inr (.inl ⟨e, by simpa using g1⟩))
 have hne : ∀ (a : Nat) (b : Int), b ≠ (a : Int) → ((a : Int) != b) = true := fun a b h => by rw [bne_iff_ne]; exact fun e => h e.symm
 cases hcm : qbm d with
 | false =>
  have H0 := qH0 (qgA (d := d) (by rw [ht]; exact hty) hcm)
  rw [hcd] at hcm
  have hcf := of_decide_eq_false hcm
  have HCF := qH0 hcf
  have HB0 := qH0 hb0
  clear hty hcd hnm hcn hcu hcx s1 s2 sl a2 a3 a4 ht hn1 hn2 hn3 hn4 hk hcm hA hb0 hcf hc
  rcases hT with ⟨h16, h17⟩ | ⟨h16, h17, h18⟩ | ⟨h16, h17⟩ | ⟨h16, h17, h18, HTX⟩ | ⟨h16, h17, HTX⟩
  all_goals
   by_cases e1 : c1 = (n1 : Int)
   ·subst e1
    by_cases e2 : c2 = (n2 : Int)
    ·subst e2
     by_cases e3 : 0 ≤ c3
     ·by_cases e4 : c3 = (n4 : Int)
      ·subst e4
       first
        | (refine absurd ?_ HCF.out; refine ⟨rfl, rfl, ?_, fun _ => rfl⟩; exact HTX.out)
        | (clear hne
           go_enter Tryz.func75, Tryz.ntmps75
           go_wp2_with (go_at_call 95; refine (hCt _).mono ?_; rintro e w2 ⟨rfl, rfl⟩)
           all_goals first
            | (exfalso; have hz := ‹(!decide ((n3 : Int) ≤ 32)) = false›; simp at hz; omega)
            | (go_ret; exact qaG 2 H0.out rfl HB0.out))
      ·have h4 := hne _ _ e4
       clear hne e4
       go_enter Tryz.func75, Tryz.ntmps75
       go_wp2_with (go_at_call 95; refine (hCt _).mono ?_; rintro e w2 ⟨rfl, rfl⟩)
       go_ret
       exact qaG 2 H0.out rfl HB0.out
     ·first
       | (refine absurd ?_ HCF.out; refine ⟨rfl, rfl, ?_, fun h => absurd h e3⟩; exact HTX.out)
       | (clear hne
          go_enter Tryz.func75, Tryz.ntmps75
          go_wp2_with (go_at_call 95; refine (hCt _).mono ?_; rintro e w2 ⟨rfl, rfl⟩)
          all_goals first
           | (exfalso; have hz := ‹(!decide ((n3 : Int) ≤ 32)) = false›; simp at hz; omega)
           | (go_ret; exact qaG 2 H0.out rfl HB0.out))
    ·have h4 := hne _ _ e2
     clear hne e2
     go_enter Tryz.func75, Tryz.ntmps75
     go_wp2_with (go_at_call 95; refine (hCt _).mono ?_; rintro e w2 ⟨rfl, rfl⟩)
     go_ret
     exact qaG 2 H0.out rfl HB0.out
   ·have h4 := hne _ _ e1
    clear hne e1
    go_enter Tryz.func75, Tryz.ntmps75
    go_wp2_with (go_at_call 95; refine (hCt _).mono ?_; rintro e w2 ⟨rfl, rfl⟩)
    go_ret
    exact qaG 2 H0.out rfl HB0.out
 | true =>
  have hrest := qhF (d := d) (by rw [ht]; exact hty) hcm
  have hcm2 := hcm
  rw [hcd] at hcm2
  obtain ⟨e1, e2, hTX, hR4⟩ := of_decide_eq_true hcm2
  subst e1 e2
  have hT2 : ((t == 16) = true ∧ (1 : Int) ≤ (n3 : Int) ∧ (n3 : Int) ≤ 32) ∨ ((t == 16) = false ∧ ((n3 : Int) == 0) = true) := by
   by_cases h16 : t = 16
   ·rw [if_pos h16] at hTX
    exact .inl ⟨by simpa using h16, by omega, by omega⟩
   ·rw [if_neg h16] at hTX
    exact .inr ⟨by simpa using h16, by simpa using hTX⟩
  have hR2 : ((0 : Int) ≤ c3 ∧ c3 = (n4 : Int)) ∨ ¬ (0 : Int) ≤ c3 := by
   by_cases h : 0 ≤ c3
   ·exact .inl ⟨h, (hR4 h).symm⟩
   ·exact .inr h
  clear hT hne hcm2 hTX hR4 hc hcd
  have hn15 : t = 15 → n2 = 1 := fun h => by
   have e := qgF d 1 1 0 (by rw [ht, h]; rfl) (by rw [ht, h]; decide)
   rw [hcm] at e
   have := of_decide_eq_true e.symm
   omega
  have hnums0 : ∀ (h : 0 < d.nums.length), d.nums.headD 0 = d.nums[0] := fun h => qi4 d.nums h
  have hnb : ∀ m ∈ d.nums, m < 2 ^ 32 := hk.2.2.2.2.1
  have hxb := hk.2.2.2.2.2.1
  have hnok := hk.2.2.1
  have hl1 : n1 ≤ 1048576 := by have := hk.2.1; omega
  have hl3 : n3 ≤ 1048576 := by have := hxb.1; omega
  have HL1 := qH0 (show d.names.length = n1 by rw [← sl, hn1])
  have HV1 := qH0 hn1
  have HL2 := qH0 hn2; have HL3 := qH0 hn3; have HL4 := qH0 hn4
  have hbox := fun j v hv => new_at w [.int .i64 t, .slice an n1 cn, .slice au n2 cu, .slice ax n3 cx, .slice ar n4 cr] 87 j v hv
  have HB0 := qH0 hb0
  have HCN := qH0 hcn; have HCU := qH0 hcu; have HCX := qH0 hcx; have HNM := qH0 hnm; have HNOK := qH0 hnok
  have HN15 := qH0 hn15; have HNS := qH0 hnums0; have HNB := qH0 hnb
  rw [ht] at hrest
  have HR := qH0 hrest
  clear hty hnm hcn hcu hcx s1 s2 sl a2 a3 a4 ht hn1 hn2 hn3 hn4 hk hcm hA hb0 hrest hnok hn15 hnums0 hnb hxb
  have hbs : w.heap.size < (w.alloc (.cells #[.int .i64 t, .slice an n1 cn, .slice au n2 cu, .slice ax n3 cx, .slice ar n4 cr] 87)).heap.size := by simp
  have HBX : Hid (∀ W, Below (w.alloc (.cells #[.int .i64 t, .slice an n1 cn, .slice au n2 cu, .slice ax n3 cx, .slice ar n4 cr] 87)).heap.size (w.alloc (.cells #[.int .i64 t, .slice an n1 cn, .slice au n2 cu, .slice ax n3 cx, .slice ar n4 cr] 87)) W →
   W.cell? ⟨w.heap.size, 0, none⟩ = some (.int .i64 t) ∧ W.cell? ⟨w.heap.size, 1, none⟩ = some (.slice an n1 cn) ∧ W.cell? ⟨w.heap.size, 2, none⟩ = some (.slice au n2 cu) ∧ W.cell? ⟨w.heap.size, 3, none⟩ = some (.slice ax n3 cx) ∧ W.cell? ⟨w.heap.size, 4, none⟩ = some (.slice ar n4 cr)) := qH0 (fun W hb =>
   ⟨(hb.cell (p := ⟨w.heap.size, 0, none⟩) hbs).trans (hbox 0 _ rfl), (hb.cell (p := ⟨w.heap.size, 1, none⟩) hbs).trans (hbox 1 _ rfl), (hb.cell (p := ⟨w.heap.size, 2, none⟩) hbs).trans (hbox 2 _ rfl), (hb.cell (p := ⟨w.heap.size, 3, none⟩) hbs).trans (hbox 3 _ rfl), (hb.cell (p := ⟨w.heap.size, 4, none⟩) hbs).trans (hbox 4 _ rfl)⟩)
  clear hbox
  have hX := HBX.out _ (qL0)
  obtain ⟨x0, x1, x2, x3, x4⟩ := hX
  rcases hT2 with ⟨h16, h17, h18⟩ | ⟨h16, h17⟩ <;> rcases hR2 with ⟨h19, h20⟩ | h19
  all_goals
   try subst h20
   go_enter Tryz.func75, Tryz.ntmps75
   go_wp2_with (go_at_call 95; refine (hCt _).mono ?_; rintro e w2 ⟨rfl, rfl⟩)
   obtain ⟨W0, hW0⟩ : ∃ W0, w.alloc (.cells #[.int .i64 t, .slice an n1 cn, .slice au n2 cu, .slice ax n3 cx, .slice ar n4 cr] 87) = W0 := ⟨_, rfl⟩
   rw [hW0] at x0 x1 x2 x3 x4 HBX HB0 ⊢
   clear hW0 hbs x0 x1 x2 x3 x4
   have hb2 := Below.refl W0.heap.size W0
   have hW0z := HB0.out.size
   go_loopw [7, 8] (fun i ez wr => ∃ k : Nat, i = .int .i64 k ∧ k ≤ n1 ∧ Hid (qax (d.names.take k) = 0) ∧ Below W0.heap.size W0 wr) (fun i _ _ => n1 - (intOf i).toNat)
   case atStart => exact ⟨0, rfl, Nat.zero_le _, qH0 rfl, hb2⟩
   case round =>
    obtain ⟨k, rfl, hk0, HC0, hBk⟩ := hrel
    have hBw : Below w.heap.size w wr := HB0.out.trans (hBk.mono hW0z)
    obtain ⟨x0, x1, x2, x3, x4⟩ := HBX.out _ hBk
    by_cases hlt : k < n1
    ·have hkd : k < d.names.length := by rw [HL1.out]; exact hlt
     have hkv : k < vs.length := by rw [HV1.out]; exact hlt
     obtain ⟨g, off, rfl, hg, hcell⟩ := HCN.out wr hBw k hkv
     have hNC := qb8 vs[k] d.names[k] wr (HNM.out wr hBw k hkv hkd).1 (HNOK.out _ (List.getElem_mem hkd))
     have hsn : qax (d.names.take (k + 1)) = checkN d.names[k] := by rw [List.take_succ_eq_append_getElem hkd, qgv, if_pos HC0.out]
     obtain ⟨er, her⟩ : ∃ er, checkN d.names[k] = er := ⟨_, rfl⟩
     rw [her] at hNC hsn
     have HSN := qH0 hsn
     clear her hsn
     obtain ⟨⟨pa, pc, ep, _⟩, _⟩ := id (HNM.out wr hBw k hkv hkd)
     rw [ep] at hcell hNC
     obtain ⟨pn, hpn⟩ : ∃ n, d.names[k].length = n := ⟨_, rfl⟩
     rw [hpn] at hcell hNC
     clear ep hpn
     by_cases he : (er != 0) = true
     ·have H0 := qH0 (show checkD d = er by
       have hne : er ≠ 0 := by simpa using he
       have hst : qax d.names = er := by rw [qgC (List.take_prefix (k + 1) d.names) (by rw [HSN.out]; exact hne), HSN.out]
       rw [HR.out, if_pos (by rw [hst]; exact hne), hst])
      go_wp2_with (go_at_call 41; refine hNC.mono ?_; rintro e w3 ⟨rfl, rfl⟩)
      go_ret
      exact qaG er H0.out rfl hBw
     ·have he0 : er = 0 := by simpa using he
      subst he0
      clear he
      go_wp2_with (go_at_call 41; refine hNC.mono ?_; rintro e w3 ⟨rfl, rfl⟩)
      go_roundw
      case rel => exact ⟨k + 1, by go_num, by omega, HSN, hBk⟩
      case measure => simp [intOf]; omega
    ·obtain rfl : k = n1 := by omega
     have hc0 := HC0.out
     rw [List.take_of_length_le (by rw [HL1.out]; exact qN0)] at hc0
     have hz := HR.out
     rw [if_neg (by rw [hc0]; simp)] at hz
     clear hc0 HC0
     by_cases h15 : (t == 15) = true
     ·have ht15 : t = 15 := by simpa using h15
      have hn2 := HN15.out ht15
      have hnl : 0 < d.nums.length := by rw [HL2.out, hn2]; omega
      obtain ⟨g, off, rfl, hg, hcu⟩ := HCU.out wr hBw 0 (by rw [List.length_map]; exact hnl)
      rw [List.getElem_map, Nat.add_zero] at hcu
      unfold u32V at hcu
      have hh := HNS.out hnl
      rw [hh] at hz
      have hnb := HNB.out _ (List.getElem_mem hnl)
      obtain ⟨m, hm⟩ : ∃ m, d.nums[0] = m := ⟨_, rfl⟩
      rw [hm] at hcu hz hnb
      have hm0 : (0 : Int) ≤ (m : Int) := by omega
      have hm1 : (m : Int) ≤ 4294967295 := by omega
      have hn2i : (0 : Int) < (n2 : Int) := by omega
      clear hh hm hnb hnl
      by_cases hov : 65535 < (m : Int)
      ·have H0 := qH0 (show checkD d = 7 by rw [hz, if_pos ⟨ht15, by omega⟩])
       clear hz ht15 hn2
       go_wp2
       go_ret
       exact qaG 7 H0.out rfl hBw
      ·have HZ := qH0 (show checkD d = if longT d.texts then 3 else if 1024 < d.raw.length then 3 else 0 by rw [hz, if_neg (by omega)])
       clear hz ht15 hn2
       go_wp2_with fail
       go_loop [9] (fun i => ∃ j : Nat, i = .int .i64 j ∧ j ≤ n3 ∧ Hid (longT (d.texts.take j) = false)) (fun i => n3 - (intOf i).toNat)
       case atStart => exact ⟨0, rfl, Nat.zero_le _, qH0 rfl⟩
       case round =>
        obtain ⟨j, rfl, hj, HT⟩ := hrel
        by_cases hjt : j < n3
        ·have hjx : j < d.texts.length := by rw [HL3.out]; exact hjt
         obtain ⟨g, off, rfl, hg, hcell⟩ := HCX.out wr hBw j hjx
         obtain ⟨x, hx0, hxz, hxv⟩ := str_of d.texts[j]
         rw [hxv] at hcell
         by_cases hlong : 255 < (x.size : Int)
         ·have H0 := qH0 (show checkD d = 3 by rw [HZ.out, if_pos (qfK hjx (by omega))])
          clear hx0 hxz hxv
          go_wp2
          go_ret
          exact qaG 3 H0.out rfl hBw
         ·have HT2 := qH0 (show longT (d.texts.take (j + 1)) = false by
           rw [List.take_succ_eq_append_getElem hjx, qey, HT.out]
           simp; omega)
          clear hx0 hxz hxv HT
          go_wp2
          go_round
          case rel => exact ⟨j + 1, by go_num, by omega, HT2⟩
          case measure => simp [intOf]; omega
        ·obtain rfl : j = n3 := by omega
         have hlt0 := HT.out
         rw [List.take_of_length_le (by rw [HL3.out]; exact qN0)] at hlt0
         have HZ2 := qH0 (show checkD d = if 1024 < n4 then 3 else 0 by rw [HZ.out, if_neg (by rw [hlt0]; simp), HL4.out])
         clear hlt0 HT HZ
         by_cases hraw : 1024 < (n4 : Int)
         ·have H0 := qH0 (show checkD d = 3 by rw [HZ2.out, if_pos (by omega)])
          go_wp2
          go_ret
          exact qaG 3 H0.out rfl hBw
         ·have H0 := qH0 (show checkD d = 0 by rw [HZ2.out, if_neg (by omega)])
          go_wp2
          go_ret
          exact qaG 0 H0.out rfl hBw
     ·have h15f : (t == 15) = false := by simpa using h15
      have HZ := qH0 (show checkD d = if longT d.texts then 3 else if 1024 < d.raw.length then 3 else 0 by rw [hz, if_neg (by rintro ⟨h, _⟩; apply h15; simp [h])])
      clear hz h15
      go_wp2_with fail
      go_loop [9] (fun i => ∃ j : Nat, i = .int .i64 j ∧ j ≤ n3 ∧ Hid (longT (d.texts.take j) = false)) (fun i => n3 - (intOf i).toNat)
      case atStart => exact ⟨0, rfl, Nat.zero_le _, qH0 rfl⟩
      case round =>
       obtain ⟨j, rfl, hj, HT⟩ := hrel
       by_cases hjt : j < n3
       ·have hjx : j < d.texts.length := by rw [HL3.out]; exact hjt
        obtain ⟨g, off, rfl, hg, hcell⟩ := HCX.out wr hBw j hjx
        obtain ⟨x, hx0, hxz, hxv⟩ := str_of d.texts[j]
        rw [hxv] at hcell
        by_cases hlong : 255 < (x.size : Int)
        ·have H0 := qH0 (show checkD d = 3 by rw [HZ.out, if_pos (qfK hjx (by omega))])
         clear hx0 hxz hxv
         go_wp2
         go_ret
         exact qaG 3 H0.out rfl hBw
        ·have HT2 := qH0 (show longT (d.texts.take (j + 1)) = false by
          rw [List.take_succ_eq_append_getElem hjx, qey, HT.out]
          simp; omega)
         clear hx0 hxz hxv HT
         go_wp2
         go_round
         case rel => exact ⟨j + 1, by go_num, by omega, HT2⟩
         case measure => simp [intOf]; omega
       ·obtain rfl : j = n3 := by omega
        have hlt0 := HT.out
        rw [List.take_of_length_le (by rw [HL3.out]; exact qN0)] at hlt0
        have HZ2 := qH0 (show checkD d = if 1024 < n4 then 3 else 0 by rw [HZ.out, if_neg (by rw [hlt0]; simp), HL4.out])
        clear hlt0 HT HZ
        by_cases hraw : 1024 < (n4 : Int)
        ·have H0 := qH0 (show checkD d = 3 by rw [HZ2.out, if_pos (by omega)])
         go_wp2
         go_ret
         exact qaG 3 H0.out rfl hBw
        ·have H0 := qH0 (show checkD d = 0 by rw [HZ2.out, if_neg (by omega)])
         go_wp2
         go_ret
         exact qaG 0 H0.out rfl hBw
end Go.Proofs.YtnpnfajgphpabaaGreat
