import Derived.Shelf.Small.Bits
import Derived.Shelf.Strconv.Itoa0
import Derived.Shelf.Sort.Plain
import Derived.Shelf.Slices.Turned
import Derived.Ground.Names2Prog
import Derived.Shelf.Slices.Clone
import Derived.Shelf.Slices.CompactI
import Derived.Shelf.Slices.SearchI
import Derived.Shelf.Slices.Cells
import Derived.Shelf.Slices.In.SortNone
import Derived.Lib.OwnBridge
import Derived.ControlIn
import Derived.Deep.RegionLaw
import Derived.Test.YtckammgnmgkieaaGreatMQ13
import Derived.Test.YtckammgnmgkieaaGreatMQ41
import Derived.Test.YtckammgnmgkieaaGreatMQ21
namespace Go.Proofs.YtckammgnmgkieaaGreat
set_option linter.unusedVariables false
set_option linter.unusedSimpArgs false
set_option maxRecDepth 20000
open Go.RowKit Go.Shelf
abbrev iv : Int → Value := Value.int .i64
theorem OwnG.len {W : World} {base : Nat} {a : Option Addr} {n c : Nat} {zs : List Int} (h : OwnG 3 iv W base (.slice a n c) zs) : n = zs.length := by
 obtain ⟨_, _, e⟩ := h.shape
 injection e
end Go.Proofs.YtckammgnmgkieaaGreat
namespace Go.Proofs.YtckammgnmgkieaaGreat
set_option linter.unusedVariables false
set_option linter.unusedSimpArgs false
set_option maxRecDepth 100000
set_option maxHeartbeats 16000000
open Go.RowKit Go.Shelf
theorem qiz {o : Nm} {t : Int} {l : List Rc} {k : Nat} (h : k < l.length) : (l.take (k + 1)).filter (belM o t) = (l.take k).filter (belM o t) ++ if belM o t l[k] = true then [l[k]] else [] := by
 rw [List.take_succ_eq_append_getElem h, List.filter_append]
 congr 1
 cases e : belM o t l[k] <;> simp [e]
theorem qbn {S T : TypeId} {k bytes : Nat} {ops : Array Oper} {rest : List Oper} {o : Oper} {a : Act} {Q : Exit → Act → World → Prop} (W : World) (hgd : o.guard = none) (s x : Operand) (hE : ElemK k T S bytes) (hk0 : 0 < k)
 (ho : o.op = .call { callee := .builtin .append, args := #[s, x], argTypes := #[S, S] })
 (base : Nat) (v : Value) (xs : List (List Value)) (hs : a.eval s = v) (hown : OwnC k T W base v xs)
 (cs : List Value) (hcl : cs.length = k) (hc1 : ∀ u ∈ cs, u.oneCell' = true) (c : Nat) (hx : a.eval x = .slice (some ⟨W.heap.size, 0, none⟩) 1 c)
 (hbase : base ≤ W.heap.size) (hk : xs.length + 1 ≤ maxLen) (hk2 : (xs.length + 1) * bytes ≤ 140737488355328)
 (h : ∀ v' w', OwnC k T w' base v' (xs ++ [cs]) → W.grownBy w' v.ownBlock → wpList Tryz.prog ops Q rest (a.put o.dst v') w') :
 wpList Tryz.prog ops Q (o :: rest) a (W.alloc (.cells cs.toArray T)) := by
 obtain ⟨ht, i, z, hi, hz, hz1, hz2, hzc⟩ := hE
 refine wpList_append_own _ hgd s x S ho base T i z k bytes ht hi hz hz1 hz2 hzc hk0 v xs.length (xs.flatMap fun cs => cs) hs (hown.alloc _) ⟨W.heap.size, 0, none⟩ 1 c cs hx (by omega) (qbc W _ _) hc1 hk hk2 (by simp; omega) ?_
 intro v' w' h1 h2 _
 refine h v' w' ?_ (qaS h2)
 unfold OwnC OwnK
 rw [List.length_append, List.flatMap_append]
 have e : [cs].flatMap (fun cs => cs) = cs := by simp
 rw [e]
 exact h1
def OfPost (w : World) (s : Option St) (e : Ending) (w' : World) : Prop := ∃ cs, e = .returned (.tuple #[.agg cs.toArray, .bool s.isSome]) ∧ SetR w' cs (s.getD ⟨[], 0, 0, []⟩) ∧ Below w.heap.size w w'
def FrSet (W : World) (base : Nat) (cs : List Value) (s : St) : Prop :=
 ∃ (x0 x3 : Option Addr × Nat × Nat) (ds : List (List Value)), cs = [.slice x0.1 x0.2.1 x0.2.2, .int .i64 s.ty, .int .u32 (s.ttl : Int), .slice x3.1 x3.2.1 x3.2.2] ∧ OwnG 9 strV W base (.slice x0.1 x0.2.1 x0.2.2) s.owner ∧
  OwnC 5 101 W base (.slice x3.1 x3.2.1 x3.2.2) ds ∧ ds.length = s.data.length ∧ ∀ j (h1 : j < ds.length) (h2 : j < s.data.length), ∃ vn vu vt vr, ds[j] = [.int .i64 s.data[j].ty, vn, vu, vt, vr] ∧ DRow W base vn vu vt vr s.data[j]
theorem DRow.keptX {W W' : World} {base B : Nat} {vn vu vt vr : Value} {d : Dat} (h : DRow W base vn vu vt vr d) (hB : B < base) (hg : W.grownBy W' (some B)) : DRow W' base vn vu vt vr d := by
 obtain ⟨⟨vs, k1, k2, k3⟩, i1, i2, i3⟩ := h
 have hk : ∀ {α : Type} {T : TypeId} {enc : α → Value} {v : Value} {xs : List α}, OwnG T enc W base v xs → OwnG T enc W' base v xs := fun {α T enc v xs} o => o.kept hg (.inr fun e => by have := o.base_le B e; omega)
 exact ⟨⟨vs, hk k1, k2, fun i a b => hk (k3 i a b)⟩, hk i1, hk i2, hk i3⟩
theorem FrSet.setR {W : World} {base : Nat} {cs : List Value} {s : St} (h : FrSet W base cs s) : SetR W cs s := by
 obtain ⟨x0, x3, ds, e, h1, h2, h3, h4⟩ := h
 have h5 : ∀ c ∈ ds, c.length = 5 := fun c hc => by
  obtain ⟨i, hi, rfl⟩ := List.mem_iff_getElem.1 hc
  obtain ⟨vn, vu, vt, vr, e2, _⟩ := h4 i hi (by omega)
  rw [e2]; rfl
 refine ⟨x0, x3, ds, e, h1.nmAt, SlK.of_own h2 h5, h3, fun j a b => ⟨h5 _ (List.getElem_mem a), ?_⟩⟩
 obtain ⟨vn, vu, vt, vr, e2, h6⟩ := h4 j a b
 rw [e2]; exact h6.datAt
theorem FrSet.keptX {W W' : World} {base B : Nat} {cs : List Value} {s : St} (h : FrSet W base cs s) (hB : B < base) (hg : W.grownBy W' (some B)) : FrSet W' base cs s := by
 obtain ⟨x0, x3, ds, e, h1, h2, h3, h4⟩ := h
 refine ⟨x0, x3, ds, e, h1.kept hg (.inr fun e => by have := h1.base_le B e; omega), OwnK.kept h2 hg (.inr fun e => by have := OwnK.base_le h2 B e; omega), h3, fun j a b => ?_⟩
 obtain ⟨vn, vu, vt, vr, e2, h6⟩ := h4 j a b
 exact ⟨vn, vu, vt, vr, e2, h6.keptX hB hg⟩
theorem qjH (W : World) (base : Nat) : FrSet W base [.slice none 0 0, .int .i64 0, .int .u32 0, .slice none 0 0] ((none : Option St).getD ⟨[], 0, 0, []⟩) :=
 ⟨(none, 0, 0), (none, 0, 0), [], rfl, OwnG.nil _ _, OwnK.nil _ _, rfl, fun j a => absurd a (by simp)⟩
theorem qlS {W : World} {N base m : Nat} {css : List (List Value)} {vo vn vu vt vr : Nat → Option Addr × Nat × Nat} {rs : List Rc} (hm : css.length = m) (hl : css.length = rs.length) (hb : base ≤ N) (hF : ∀ j (h1 : j < css.length) (h2 : j < rs.length), FrAt W base css[j] rs[j])
 (hc : ∀ k (hk : k < css.length) (hr : k < rs.length), css[k] = [.slice (vo k).1 (vo k).2.1 (vo k).2.2, .int .u32 (rs[k].ttl : Int), .int .i64 rs[k].data.ty, .slice (vn k).1 (vn k).2.1 (vn k).2.2, .slice (vu k).1 (vu k).2.1 (vu k).2.2, .slice (vt k).1 (vt k).2.1 (vt k).2.2, .slice (vr k).1 (vr k).2.1 (vr k).2.2])
 (x : SegD m) (hd : DatO N css x W) : FrSet W base (setC vo rs x) (setR rs x.1.1) := by
 have hR : Rcs W css rs := ⟨hl, fun i h1 h2 => (hF i h1 h2).rcAt⟩
 have h0 := qmS hm hR hc x hd
 obtain ⟨⟨⟨s, e⟩, ad, cd⟩, hx1, hx2⟩ := x
 simp only at hx1 hx2
 have hs : s < rs.length := by omega
 have hsc : s < css.length := by omega
 obtain ⟨j, rfl⟩ : ∃ j, e = s + j + 1 := ⟨e - s - 1, by omega⟩
 have e1 : setR rs (s, s + j + 1) = stR rs[s] ((rs.drop (s + 1)).take j) := by
  unfold setR
  simp only [List.drop_eq_getElem_cons hs]
  rw [show s + j + 1 - s - 1 = j by omega]
 have hdl : (dcs css s (s + j + 1)).length = j + 1 := by rw [qgb (by omega)]; omega
 have e2 : ttlS rs s (s + j + 1) = leastM rs[s].ttl ((rs.drop (s + 1)).take j) := by
  unfold ttlS
  rw [qcL hs, List.drop_eq_getElem_cons hs, show s + j + 1 - s = j + 1 by omega, List.take_succ_cons, qcO]
 show FrSet W base (setC vo rs ⟨((s, s + j + 1), ad, cd), hx1, hx2⟩) (setR rs (s, s + j + 1))
 rw [e1]
 unfold setC
 simp only
 rw [qcL hs, e2]
 have hf := hF s hsc hs
 rw [hc s hsc hs] at hf
 obtain ⟨_, _, _, _, _, e5, n1, _⟩ := hf
 simp only [List.cons.injEq, and_true] at e5
 refine ⟨vo s, (ad, s + j + 1 - s, cd), dcs css s (s + j + 1), rfl, by rw [e5.1]; exact n1, OwnK.weaken hd hb, by rw [hdl]; simp [stR]; omega, fun i h1 h2 => ?_⟩
 have hi : i < j + 1 := by rw [hdl] at h1; exact h1
 have hc1 : s + i < css.length := by omega
 have hc2 : s + i < rs.length := by omega
 have ed : (dcs css s (s + j + 1))[i] = css[s + i].drop 2 := by
  simp only [dcs, List.getElem_map, List.getElem_take, List.getElem_drop]
 have er : (stR rs[s] ((rs.drop (s + 1)).take j)).data[i] = rs[s + i].data := by
  cases i with
  | zero => rfl
  | succ i =>
   simp only [stR, List.getElem_cons_succ, List.getElem_map, List.getElem_take, List.getElem_drop]
   congr 2; omega
 rw [ed, er]
 obtain ⟨wo, wn, wu, wt, wr, e6, _, d1⟩ := hF (s + i) hc1 hc2
 exact ⟨wn, wu, wt, wr, by rw [e6]; rfl, d1⟩
def qb9 (w : World) (s : Option St) (e : Ending) (w' : World) : Prop := ∃ cs, e = .returned (.tuple #[.agg cs.toArray, .bool s.isSome]) ∧ FrSet w' w.heap.size cs (s.getD ⟨[], 0, 0, []⟩) ∧ Below w.heap.size w w'
def SetF (w W : World) (cs : List Value) (s : St) : Prop := ∀ b z0 z1 z2 z3 v0 v1 v2 v3, b < w.heap.size → W.heap[b]? = some (.cells #[z0, z1, z2, z3] 38) → SetR ((((W.setCell ⟨b, 0, none⟩ v0).setCell ⟨b, 1, none⟩ v1).setCell ⟨b, 2, none⟩ v2).setCell ⟨b, 3, none⟩ v3) cs s
def OfPostK (w : World) (s : Option St) (e : Ending) (w' : World) : Prop := ∃ cs, e = .returned (.tuple #[.agg cs.toArray, .bool s.isSome]) ∧ SetR w' cs (s.getD ⟨[], 0, 0, []⟩) ∧ Below w.heap.size w w' ∧ SetF w w' cs (s.getD ⟨[], 0, 0, []⟩)
theorem OfPostK.post {w w' : World} {s : Option St} {e : Ending} (h : OfPostK w s e w') : OfPost w s e w' := by
 obtain ⟨cs, h1, h2, h3, _⟩ := h
 exact ⟨cs, h1, h2, h3⟩
theorem Rcs.snoc {W : World} {css : List (List Value)} {rs : List Rc} {cs : List Value} {r : Rc} (h : Rcs W css rs) (h1 : RcAt W cs r) : Rcs W (css ++ [cs]) (rs ++ [r]) := by
 refine ⟨by simp [h.1], fun i a b => ?_⟩
 by_cases hi : i < css.length
 ·have hi2 : i < rs.length := by have := h.1; omega
  rw [List.getElem_append_left hi, List.getElem_append_left hi2]
  exact h.2 i hi hi2
 ·have e1 : i = css.length := by simp at a; omega
  have e2 : i = rs.length := by have := h.1; omega
  rw [List.getElem_append_right (by omega), List.getElem_append_right (by omega)]
  simpa using h1
theorem qeX {fn : Func} {t u : Tmp} (h : fn.results = #[.cell t 38, .cell u 4]) (tmps : Array Value) (W : World) {a b : Nat} {x0 x1 x2 x3 v : Value} (h0 : x0.oneCell' = true) (h1 : x1.oneCell' = true) (h2 : x2.oneCell' = true) (h3 : x3.oneCell' = true) (hv : v.oneCell' = true)
 (ht : tmps.getD t undef = .pointer (some ⟨a, 0, none⟩)) (hu : tmps.getD u undef = .pointer (some ⟨b, 0, none⟩)) (c0 : W.cell? ⟨a, 0, none⟩ = some x0) (c1 : W.cell? ⟨a, 1, none⟩ = some x1) (c2 : W.cell? ⟨a, 2, none⟩ = some x2) (c3 : W.cell? ⟨a, 3, none⟩ = some x3) (c4 : W.cell? ⟨b, 0, none⟩ = some v) :
 (results fn tmps).run Tryz.prog W = .ok (.tuple #[.agg #[x0, x1, x2, x3], v]) W := by
 have ht' : tmps[t]?.getD undef = .pointer (some ⟨a, 0, none⟩) := by rw [← ht]; simp
 have hv' : tmps[u]?.getD undef = .pointer (some ⟨b, 0, none⟩) := by rw [← hu]; simp
 have hA : ∀ w, Sem.run Tryz.prog (underlying 38) w = .ok _ w := run_underlying Tryz.underlying38
 have hB : ∀ w, Sem.run Tryz.prog (underlying 4) w = .ok _ w := run_underlying Tryz.underlying4
 simp [results, h, ht', hv', loadVar, asAddr, go_sem, hA, hB, c0, c1, c2, c3, c4, isAgg]
def OfI (N B : Nat) (W0 : World) {n : Nat} (pre : List (SegD n)) (W : World) : Prop := pre = [] ∧ KpX N B W0 W ∧ W.heap[B]? = some (.cells #[.slice none 0 0, .int .i64 0, .int .u32 0, .slice none 0 0] 38)
def OfX (N B : Nat) (w : World) (css : List (List Value)) (vo : Nat → Option Addr × Nat × Nat) (L : List Rc) {n : Nat} (c : Code) (pre : List (SegD n)) (W : World) : Prop :=
 c = .ret ∧ ∃ x, pre = [x] ∧ Below w.heap.size w W ∧ W.heap[B]? = some (.cells (setC vo L x).toArray 38) ∧ W.heap[B + 1]? = some (.cells #[.bool true] 4) ∧ DatO N css x W ∧ ∀ j (h1 : j < css.length) (h2 : j < L.length), FrAt W (B + 2) css[j] L[j]
theorem qnh {N B : Nat} {W0 : World} {n : Nat} (hB : B < N) (hn : N ≤ W0.heap.size) : OwnFrom N (OfI (n := n) N B W0) := by
 rintro pre W W' row ⟨h1, h2, h3⟩ hg hr
 exact ⟨h1, h2.trans (KpX.grown (Nat.le_trans hn h2.size) hg (fun r e => .inl (hr r e).1)), (hg.block B (qaa h3) (fun e => by have := (hr B e.symm).1; omega)).trans h3⟩
theorem qmR {N B : Nat} {w : World} {css : List (List Value)} {vo : Nat → Option Addr × Nat × Nat} {L : List Rc} {n : Nat} (c : Code) (hB : B + 1 < N) (hw : w.heap.size ≤ N) : OwnFrom N (OfX (n := n) N B w css vo L c) := by
 rintro pre W W' row ⟨h1, x, h2, h3, h4, h5, h6, h7⟩ hg hr
 exact ⟨h1, x, h2, h3.grown hg h3.size (fun r e => by have := (hr r e).1; omega), (hg.block B (qaa h4) (fun e => by have := (hr B e.symm).1; omega)).trans h4, (hg.block (B + 1) (qaa h5) (fun e => by have := (hr (B + 1) e.symm).1; omega)).trans h5, h6.keptO hg (fun r e => (hr r e).2), fun j a b => (h7 j a b).keptO hg (fun r e => (hr r e).2)⟩
theorem of_fin {N B : Nat} {w W : World} {css : List (List Value)} {vo : Nat → Option Addr × Nat × Nat} {L : List Rc} {n : Nat} {x : SegD n} {v0 v1 v2 v3 z0 z1 z2 z3 z4 : Value} (ecs : setC vo L x = [v0, v1, v2, v3]) (hx6 : W.heap[B]? = some (.cells #[z0, z1, z2, z3] 38)) (hx7 : W.heap[B + 1]? = some (.cells #[z4] 4))
 (hD : DatO N css x W) (hF : ∀ j (h1 : j < css.length) (h2 : j < L.length), FrAt W (B + 2) css[j] L[j]) (hww : Below w.heap.size w W) (hBw : w.heap.size ≤ B) :
 OfX N B w css vo L .ret ([] ++ [x]) (((((W.setCell ⟨B, 0, none⟩ v0).setCell ⟨B, 1, none⟩ v1).setCell ⟨B, 2, none⟩ v2).setCell ⟨B, 3, none⟩ v3).setCell ⟨B + 1, 0, none⟩ (.bool true)) := by
 have q0 := kset hx6 0 v0
 have q1 := kset q0 1 v1
 have q2 := kset q1 2 v2
 have q3 := kset q2 3 v3
 have g0 := qah W B 0 v0
 have g1 := qah (W.setCell ⟨B, 0, none⟩ v0) B 1 v1
 have g2 := qah ((W.setCell ⟨B, 0, none⟩ v0).setCell ⟨B, 1, none⟩ v1) B 2 v2
 have g3 := qah (((W.setCell ⟨B, 0, none⟩ v0).setCell ⟨B, 1, none⟩ v1).setCell ⟨B, 2, none⟩ v2) B 3 v3
 have g4 := qah ((((W.setCell ⟨B, 0, none⟩ v0).setCell ⟨B, 1, none⟩ v1).setCell ⟨B, 2, none⟩ v2).setCell ⟨B, 3, none⟩ v3) (B + 1) 0 (.bool true)
 have hne : (some (B + 1) : Option Nat) ≠ some B := fun e => by injection e; omega
 have hne2 : (some B : Option Nat) ≠ some (B + 1) := fun e => by injection e; omega
 have r0 := (g0.block (B + 1) (qaa hx7) hne).trans hx7
 have r1 := (g1.block (B + 1) (qaa r0) hne).trans r0
 have r2 := (g2.block (B + 1) (qaa r1) hne).trans r1
 have r3 := (g3.block (B + 1) (qaa r2) hne).trans r2
 have r4 := kset r3 0 (.bool true)
 have q4 := (g4.block B (qaa q3) hne2).trans q3
 refine ⟨rfl, x, rfl, ?_, ?_, ?_, ?_, ?_⟩
 ·exact ((((hww.setCell (p := ⟨B, 0, none⟩) hBw _).setCell (p := ⟨B, 1, none⟩) hBw _).setCell (p := ⟨B, 2, none⟩) hBw _).setCell (p := ⟨B, 3, none⟩) hBw _).setCell (p := ⟨B + 1, 0, none⟩) (by show w.heap.size ≤ B + 1; omega) _
 ·rw [ecs]; exact q4
 ·exact r4
 ·exact OwnK.keptB (OwnK.keptB (OwnK.keptB (OwnK.keptB (OwnK.keptB hD hx6 (by decide) 0 v0) q0 (by decide) 1 v1) q1 (by decide) 2 v2) q2 (by decide) 3 v3) r3 (by decide) 0 _
 ·intro j h1 h2
  exact (((((hF j h1 h2).keptX (by omega) g0).keptX (by omega) g1).keptX (by omega) g2).keptX (by omega) g3).keptX (by omega) g4
theorem qm4 {B d : Nat} {w W : World} {z0 z1 z2 z3 z4 : Value} (hx6 : W.heap[B]? = some (.cells #[z0, z1, z2, z3] 38)) (hx7 : W.heap[B + 1]? = some (.cells #[z4] 4)) (hww : Below w.heap.size w W) (hBw : w.heap.size ≤ B) {ds : List Deferred} (hd : W.heap[d]? = some (.deferred (some ds))) (h1 : d ≠ B) (h2 : d ≠ B + 1) :
 ∃ W5, ((((W.setCell ⟨B, 0, none⟩ (.slice none 0 0)).setCell ⟨B, 1, none⟩ (.int .i64 0)).setCell ⟨B, 2, none⟩ (.int .u32 0)).setCell ⟨B, 3, none⟩ (.slice none 0 0)).setCell ⟨B + 1, 0, none⟩ (.bool false) = W5 ∧ W5.heap[B]? = some (.cells #[.slice none 0 0, .int .i64 0, .int .u32 0, .slice none 0 0] 38) ∧ W5.heap[B + 1]? = some (.cells #[.bool false] 4) ∧ Below w.heap.size w W5 ∧ W5.heap[d]? = some (.deferred (some ds)) := by
 have q0 := kset hx6 0 (.slice none 0 0)
 have q1 := kset q0 1 (.int .i64 0)
 have q2 := kset q1 2 (.int .u32 0)
 have q3 := kset q2 3 (.slice none 0 0)
 have g0 := qah W B 0 (.slice none 0 0)
 have g1 := qah (W.setCell ⟨B, 0, none⟩ (.slice none 0 0)) B 1 (.int .i64 0)
 have g2 := qah ((W.setCell ⟨B, 0, none⟩ (.slice none 0 0)).setCell ⟨B, 1, none⟩ (.int .i64 0)) B 2 (.int .u32 0)
 have g3 := qah (((W.setCell ⟨B, 0, none⟩ (.slice none 0 0)).setCell ⟨B, 1, none⟩ (.int .i64 0)).setCell ⟨B, 2, none⟩ (.int .u32 0)) B 3 (.slice none 0 0)
 have g4 := qah ((((W.setCell ⟨B, 0, none⟩ (.slice none 0 0)).setCell ⟨B, 1, none⟩ (.int .i64 0)).setCell ⟨B, 2, none⟩ (.int .u32 0)).setCell ⟨B, 3, none⟩ (.slice none 0 0)) (B + 1) 0 (.bool false)
 have hne : (some (B + 1) : Option Nat) ≠ some B := fun e => by injection e; omega
 have hne2 : (some B : Option Nat) ≠ some (B + 1) := fun e => by injection e; omega
 have hnd : (some d : Option Nat) ≠ some B := fun e => by injection e; omega
 have hnd2 : (some d : Option Nat) ≠ some (B + 1) := fun e => by injection e; omega
 have r0 := (g0.block (B + 1) (qaa hx7) hne).trans hx7
 have r1 := (g1.block (B + 1) (qaa r0) hne).trans r0
 have r2 := (g2.block (B + 1) (qaa r1) hne).trans r1
 have r3 := (g3.block (B + 1) (qaa r2) hne).trans r2
 have d0 := (g0.block d (qaa hd) hnd).trans hd
 have d1 := (g1.block d (qaa d0) hnd).trans d0
 have d2 := (g2.block d (qaa d1) hnd).trans d1
 have d3 := (g3.block d (qaa d2) hnd).trans d2
 refine ⟨_, rfl, (g4.block B (qaa q3) hne2).trans q3, kset r3 0 (.bool false), ?_, (g4.block d (qaa d3) hnd2).trans d3⟩
 exact ((((hww.setCell (p := ⟨B, 0, none⟩) hBw _).setCell (p := ⟨B, 1, none⟩) hBw _).setCell (p := ⟨B, 2, none⟩) hBw _).setCell (p := ⟨B, 3, none⟩) hBw _).setCell (p := ⟨B + 1, 0, none⟩) (by show w.heap.size ≤ B + 1; omega) _
section
attribute [local go_sem] Oper.semAt_some
theorem qlG (v1 : Option Addr) (n c : Nat) (vo : Value) (o : Nm) (t : Int) (css : List (List Value)) (rs : List Rc) (w : World) (hA : SlK w (.slice v1 n c) css) (hR : Rcs w css rs) (hOK : ∀ r ∈ rs, RcOK r) (hO : NmAt w vo o) (hko : NmOK o) (hl : n ≤ 1048576) :
 Calls Tryz.prog 21 #[.slice v1 n c, vo, .int .i64 t] w (qb9 w (ofM rs o t)) := by
 obtain ⟨hln, hx⟩ : css.length = n ∧ n ≤ c := by
  obtain ⟨a', c', e, h1, _⟩ := id hA
  cases e; exact ⟨rfl, h1⟩
 have HN := qH0 (fun (k : Nat) (u : Value) (W : World) (h1 : k < rs.length) (hu : NmAt W u rs[k].owner) (hb : Below w.heap.size w W) => qbL u vo rs[k].owner o _ rfl W hu (hO.below hb) (hOK _ (List.getElem_mem h1)).1 hko)
 obtain ⟨ao, co, rfl, -⟩ := nmAt_sl.1 hO
 have HA := qH0 hA; have HR := qH0 hR; have HLN := qH0 hln; have HOK := qH0 hOK
 have HDL := qH0 (show rs.length = n by rw [← hR.1]; exact hln)
 obtain ⟨qo, hqo⟩ : ∃ q, (List.map strV o).length = q := ⟨_, rfl⟩
 rw [hqo] at HN ⊢
 clear hA hR hOK hln hO hko hqo
 refine (callsIn_wide (n := 8)).1 ?_
 refine callsIn_of_wp_marks Tryz.func21 rfl trivial ?_ rfl
 simp only [Tryz.ntmps21, List.size_toArray, List.length_cons, List.length_nil, Nat.reduceAdd, Nat.reduceSub, Array.replicate_succ, Array.replicate_zero, List.push_toArray, List.append_toArray, List.nil_append, List.cons_append]
 refine wpIn_wide.2 ?_
 go_wp2
 have HB0 := qH0 (((Below.refl w.heap.size w).alloc (qN0) (.cells #[.slice none 0 0, .int .i64 0, .int .u32 0, .slice none 0 0] 38)).alloc (by simp) (.cells #[.bool false] 4))
 have X6 := qH0 ((Below.heap_alloc (w.alloc (.cells #[.slice none 0 0, .int .i64 0, .int .u32 0, .slice none 0 0] 38)) (.cells #[.bool false] 4) w.heap.size (by simp)).trans (knew w (.cells #[.slice none 0 0, .int .i64 0, .int .u32 0, .slice none 0 0] 38)))
 have X7 := qH0 (knew (w.alloc (.cells #[.slice none 0 0, .int .i64 0, .int .u32 0, .slice none 0 0] 38)) (.cells #[.bool false] 4))
 rw [World.size_alloc] at X7
 have HZ0 := qH0 (show ((w.alloc (.cells #[.slice none 0 0, .int .i64 0, .int .u32 0, .slice none 0 0] 38)).alloc (.cells #[.bool false] 4)).heap.size = w.heap.size + 2 by simp)
 generalize (w.alloc (.cells #[.slice none 0 0, .int .i64 0, .int .u32 0, .slice none 0 0] 38)).alloc (.cells #[.bool false] 4) = W0 at *
 go_loopw [8, 14] (fun v3 vi wr => ∃ (k : Nat) (ga : Option Addr) (gn gc : Nat) (csw : List (List Value)), v3 = .slice ga gn gc ∧ vi = .int .i64 k ∧ k ≤ n ∧ Hid (OwnC 7 103 wr W0.heap.size (.slice ga gn gc) csw) ∧ Hid (Rcs w csw ((rs.take k).filter (belM o t))) ∧ Hid (Below W0.heap.size W0 wr)) (fun _ vi _ => n - (intOf vi).toNat)
 case atStart => exact ⟨0, none, 0, 0, [], rfl, rfl, Nat.zero_le _, qH0 (OwnK.nil _ _), qH0 ⟨rfl, fun i a => absurd a (by simp)⟩, qH0 (Below.refl _ W0)⟩
 case round =>
  obtain ⟨k, ga, gn, gc, csw, rfl, rfl, hk, HO, HRw, HB⟩ := hrel
  by_cases hlt : k < n
  ·have hltz : (k : Int) < (n : Int) := by omega
   have hk1 : k < css.length := by have := HLN.out; omega
   have hk2 : k < rs.length := by have := HDL.out; omega
   have hwr : Below w.heap.size w wr := HB0.out.trans (HB.out.mono (by have := HZ0.out; omega))
   obtain ⟨b, off, rfl, hb, hel⟩ := HA.out.elem HR.out.ck (by omega)
   have h0 := HR.out.2 k hk1 hk2
   have htk := qiz (o := o) (t := t) hk2
   have hnk := fun u W => HN.out k u W hk2
   obtain ⟨d, hd⟩ : ∃ d, rs[k]'hk2 = d := ⟨_, rfl⟩
   rw [hd] at h0 htk
   simp only [hd] at hnk
   have hsh := h0.shape
   obtain ⟨⟨p0, q0, k0⟩, ⟨p3, q3, k3⟩, ⟨p4, q4, k4⟩, ⟨p5, q5, k5⟩, ⟨p6, q6, k6⟩, e0⟩ := hsh
   simp only at e0
   obtain ⟨c0', c1, c2, c3, c4, c5, c6⟩ := hel k hk1 _ _ _ _ _ _ _ e0 wr hwr
   have hown0 : NmAt w (.slice p0 q0 k0) d.owner := by
    obtain ⟨_, _, _, _, _, e5, g1, _⟩ := h0
    rw [e0] at e5
    simp only [List.cons.injEq, and_true] at e5
    rw [e5.1]; exact g1
   rw [e0] at h0
   have HD0 := qH0 h0
   have HBB := qH0 (HB.out.alloc HB.out.size (.cells #[.slice p0 q0 k0, .int .u32 (d.ttl : Int), .int .i64 d.data.ty, .slice p3 q3 k3, .slice p4 q4 k4, .slice p5 q5 k5, .slice p6 q6 k6] 103))
   have HBW := qH0 (hwr.alloc hwr.size (.cells #[.slice p0 q0 k0, .int .u32 (d.ttl : Int), .int .i64 d.data.ty, .slice p3 q3 k3, .slice p4 q4 k4, .slice p5 q5 k5, .slice p6 q6 k6] 103))
   have hn := hnk _ _ (hown0.below HBW.out) HBW.out
   have HO1 := qH0 (OwnK.below HO.out ((Below.refl _ wr).alloc (qN0) (.cells #[.slice p0 q0 k0, .int .u32 (d.ttl : Int), .int .i64 d.data.ty, .slice p3 q3 k3, .slice p4 q4 k4, .slice p5 q5 k5, .slice p6 q6 k6] 103)))
   have X1 := qH0 (knew wr (.cells #[.slice p0 q0 k0, .int .u32 (d.ttl : Int), .int .i64 d.data.ty, .slice p3 q3 k3, .slice p4 q4 k4, .slice p5 q5 k5, .slice p6 q6 k6] 103))
   have HTK := qH0 htk
   have HBE := qH0 (show belM o t d = (decide (d.data.ty = t) && sameN d.owner o) from rfl)
   generalize belM o t d = res at *
   clear h0 htk hd e0 hown0 hk1 hk2 hel hnk HO HB hwr
   generalize (d.ttl : Int) = tr at *
   generalize d.data.ty = ty at *
   by_cases hty : ty = t
   ·subst hty
    have HR1 : Hid (res = sameN d.owner o) := qH0 (by rw [HBE.out]; simp)
    clear HBE
    go_wp2_with fail
    refine hn.mono ?_
    rintro e w2 ⟨rfl, hbb2⟩
    have HB2 := qH0 (qB0 HBB.out hbb2)
    have hblk := (hbb2.block wr.heap.size (by simp)).trans X1.out
    have y0 := kcell hblk 0 _ rfl; have y1 := kcell hblk 1 _ rfl; have y2 := kcell hblk 2 _ rfl; have y3 := kcell hblk 3 _ rfl; have y4 := kcell hblk 4 _ rfl; have y5 := kcell hblk 5 _ rfl; have y6 := kcell hblk 6 _ rfl
    have HO2 := qH0 (OwnK.below HO1.out hbb2)
    have hz2 := HB2.out.size
    have HTL := qH0 (show csw.length ≤ 1048576 by have := HRw.out.1; have h2 := List.length_filter_le (belM o ty) (rs.take k); rw [List.length_take] at h2; omega)
    clear hbb2 hblk hn HBB HO1 X1 c0' c1 c2 c3 c4 c5 c6
    by_cases hs : sameN d.owner o = true
    ·rw [hs] at HR1 ⊢
     have HT : Hid ((rs.take (k + 1)).filter (belM o ty) = (rs.take k).filter (belM o ty) ++ [d]) := qH0 (by rw [HTK.out, HR1.out]; simp)
     have HRw2 : Hid (Rcs w (csw ++ [[.slice p0 q0 k0, .int .u32 tr, .int .i64 ty, .slice p3 q3 k3, .slice p4 q4 k4, .slice p5 q5 k5, .slice p6 q6 k6]]) ((rs.take (k + 1)).filter (belM o ty))) := qH0 (by rw [HT.out]; exact HRw.out.snoc HD0.out)
     clear HTK hs HT HRw HD0 HR1
     go_wp2_with (at_builtin; refine qbn w2 rfl (.tmp 29) (.tmp 31) qdA (by decide) rfl W0.heap.size (.slice ga gn gc) csw rfl HO2.out [.slice p0 q0 k0, .int .u32 tr, .int .i64 ty, .slice p3 q3 k3, .slice p4 q4 k4, .slice p5 q5 k5, .slice p6 q6 k6] rfl (by intro u hu; simp only [List.mem_cons, List.not_mem_nil, or_false] at hu; rcases hu with rfl | rfl | rfl | rfl | rfl | rfl | rfl <;> rfl) 1 (by rfl) hz2 (by have := HTL.out; unfold maxLen; omega) (by have := HTL.out; omega) ?_; intro v3 w3 hown3 hg3)
     have HB3 := qH0 (HB2.out.grown hg3 hz2 (OwnK.base_le HO2.out))
     obtain ⟨a9, c9, e9⟩ := OwnK.shape hown3
     subst e9
     have HO3 := qH0 hown3
     generalize List.length (csw ++ _) = m9 at *
     clear hg3 hown3
     go_roundw
     case measure => simp [intOf]; omega
     case rel => exact ⟨k + 1, a9, m9, c9, _, rfl, by go_num, by omega, HO3, HRw2, HB3⟩
    ·simp only [Bool.not_eq_true] at hs
     rw [hs] at HR1 ⊢
     have HTK2 : Hid ((rs.take (k + 1)).filter (belM o ty) = (rs.take k).filter (belM o ty)) := qH0 (by rw [HTK.out, HR1.out]; simp)
     have HRw2 : Hid (Rcs w csw ((rs.take (k + 1)).filter (belM o ty))) := qH0 (by rw [HTK2.out]; exact HRw.out)
     clear HTK HTK2 HR1 HRw hs
     go_wp2
     go_roundw
     case measure => simp [intOf]; omega
     case rel => exact ⟨k + 1, ga, gn, gc, csw, rfl, by go_num, by omega, HO2, HRw2, HB2⟩
   ·have hxb : (ty == t) = false := by simpa using hty
    have HR1 : Hid (res = false) := qH0 (by rw [HBE.out]; simp [hty])
    clear HBE hn
    have HTK2 : Hid ((rs.take (k + 1)).filter (belM o t) = (rs.take k).filter (belM o t)) := qH0 (by rw [HTK.out, HR1.out]; simp)
    have HRw2 : Hid (Rcs w csw ((rs.take (k + 1)).filter (belM o t))) := qH0 (by rw [HTK2.out]; exact HRw.out)
    clear HTK HTK2 HR1 HRw
    go_wp2
    go_roundw
    case measure => simp [intOf]; omega
    case rel => exact ⟨k + 1, ga, gn, gc, csw, rfl, by go_num, by omega, HO1, HRw2, HBB⟩
  ·obtain rfl : k = n := by omega
   have h := HRw.out
   rw [List.take_of_length_le (by have := HDL.out; omega)] at h
   have HH := qH0 h
   clear h HRw
   have hwr : Below w.heap.size w wr := HB0.out.trans (HB.out.mono (by have := HZ0.out; omega))
   have hC := qgF (.slice ga gn gc) csw (rs.filter (belM o t)) wr (SlK.of_own HO.out HH.out.ck) (HH.out.below hwr) (fun r hr => HOK.out r (List.mem_filter.1 hr).1) (by have := HH.out.1; have h2 := List.length_filter_le (belM o t) rs; have := HDL.out; omega)
   have HFL := qH0 (show (rs.filter (belM o t)).length ≤ 1048576 by have h2 := List.length_filter_le (belM o t) rs; have := HDL.out; omega)
   have HOKL := qH0 (qb4 (rs.filter (belM o t)) (fun r hr => HOK.out r (List.mem_filter.1 hr).1))
   have HOF := qH0 (show ofM rs o t = (setsM (canonM (rs.filter (belM o t)))).head? from rfl)
   obtain ⟨L, hL⟩ : ∃ L, canonM (rs.filter (belM o t)) = L := ⟨_, rfl⟩
   unfold qev at hC
   have HLn := qH0 (show L.length ≤ 1048576 by rw [← hL]; have := qaL (rs.filter (belM o t)); have := HFL.out; omega)
   rw [hL] at hC HOKL HOF
   generalize ofM rs o t = res at *
   clear hwr HH HO HFL hL HN HA HR HOK
   go_wp2_with fail
   refine hC.mono ?_
   rintro e w1 ⟨v2, css2, rfl, ho1, hl1, hf1, hb1⟩
   obtain ⟨a1, c1, rfl⟩ := OwnK.shape ho1
   obtain ⟨m, hm⟩ : ∃ m, css2.length = m := ⟨_, rfl⟩
   rw [hm] at ho1 hl1 ⊢
   have HO1 := qH0 ho1; have HL1 := qH0 hl1; have HF1 := qH0 hf1; have HB1 := qH0 hb1; have HM := qH0 hm
   clear ho1 hl1 hf1 hb1 hC hm
   go_wp2_with fail
   refine (qk4 _ _ _ _).mono ?_
   rintro e w2 ⟨rfl, rfl⟩
   go_wp2
   refine (wpIn_wide (n := 8)).1 ?_
   obtain ⟨B, hB⟩ : ∃ B, w.heap.size = B := ⟨_, rfl⟩
   obtain ⟨W2, hW2⟩ : ∃ W2, w1.alloc (.cells #[.slice a1 m c1] 22) = W2 := ⟨_, rfl⟩
   obtain ⟨N, hN⟩ : ∃ N, W2.heap.size = N := ⟨_, rfl⟩
   have hsz : N = w1.heap.size + 1 := by rw [← hN, ← hW2]; simp
   have hs0 : B + 2 ≤ wr.heap.size := by have h1 := HZ0.out; have h2 := HB.out.size; omega
   have hs1 : wr.heap.size ≤ w1.heap.size := HB1.out.size
   have hB12 : Below w1.heap.size w1 W2 := by rw [← hW2]; exact (Below.refl _ w1).alloc (qN0) _
   have hB02 : Below W0.heap.size W0 W2 := (qB0 HB.out HB1.out).trans (hB12.mono (by have := HB.out.size; omega))
   have hw2 : Below w.heap.size w W2 := HB0.out.trans (hB02.mono (by have := HZ0.out; omega))
   have b1 : Boxed W2 w1.heap.size 22 (.slice a1 m c1) := by rw [← hW2]; exact Boxed.new w1 _ _
   have x6 : W2.heap[B]? = some (.cells #[.slice none 0 0, .int .i64 0, .int .u32 0, .slice none 0 0] 38) := by
    rw [← hB]; exact (hB02.block _ (by have := HZ0.out; omega)).trans X6.out
   have x7 : W2.heap[B + 1]? = some (.cells #[.bool false] 4) := by
    rw [← hB]; exact (hB02.block _ (by have := HZ0.out; omega)).trans X7.out
   have hml : m = L.length := HL1.out
   have hmb : m ≤ 1048576 := by have := HLn.out; omega
   have hm := HM.out
   have hfr : ∀ j (h1 : j < css2.length) (h2 : j < L.length), FrAt W2 (B + 2) css2[j] L[j] := fun j h1 h2 => ((HF1.out j h1 h2).below hB12).weaken hs0
   have hfrK : ∀ W, KpX N B W2 W → ∀ j (h1 : j < css2.length) (h2 : j < L.length), FrAt W (B + 2) css2[j] L[j] := fun W hK j h1 h2 => (hfr j h1 h2).keptX (by omega) (hK.grownX hN.symm)
   have hst : ∀ W, KpX N B W2 W → Rcs W css2 L := fun W hK => ⟨by rw [hm]; exact hml, fun i h1 h2 => (hfrK W hK i h1 h2).rcAt⟩
   have hsl : SlK W2 (.slice a1 m c1) css2 := (SlK.of_own HO1.out (fun cs hc => by
    obtain ⟨i, hi, rfl⟩ := List.mem_iff_getElem.1 hc
    exact (HF1.out i hi (by omega)).rcAt.len)).below hB12
   have hown : ∀ b, (Value.slice a1 m c1).ownBlock = some b → b ≠ B := fun b e => by
    have := OwnK.base_le HO1.out b e
    omega
   obtain ⟨vo, vn, vu, vt, vr, hc⟩ := qjA (hst W2 (KpX.refl _ _ _))
   have HSEQ := qH0 (qjV N B W2 a1 m c1 w1.heap.size css2 L vo vn vu vt vr hsl hm hmb hst HOKL.out hN.symm (by omega) (by omega) hown b1 hc)
   rw [hB, hW2]
   have HSZ := qH0 hsz; have HS0 := qH0 hs0; have HS1 := qH0 hs1; have HW2 := qH0 hw2; have HBb := qH0 hB; have HN := qH0 hN; have HFK := qH0 hfrK; have HCC := qH0 hc; have Y6 := qH0 x6; have Y7 := qH0 x7; have HML := qH0 hml
   clear hsz hs0 hs1 hw2 hB hN hst hmb hc hfr hsl hown hml HF1 HO1 HB1 hm hfrK x6 x7 hB12 hB02 b1 hW2 HB HB0 X6 X7
   refine qe5 rfl (by omega) (gf := 110) (lb := #[.pointer (some ⟨w1.heap.size, 0, none⟩)]) rfl trivial (enters_of Tryz.func110 (by kernel_rfl) rfl)
    HSEQ.out (fun h k => h.trans k)
    (fun W l o o' hl h h1 h2 => ⟨rfl, rfl, rfl, by simp, fun k a b => World.putObj_heap_other (by have := HN.out; omega)⟩) (qL0) (fun _ => rfl)
    (OfI N B W2) (OfX N B w css2 vo L) (by rw [HN.out]; exact qnh (by have := HSZ.out; have := HS0.out; have := HS1.out; omega) (by rw [HN.out]; omega)) (fun c => by rw [HN.out]; exact qmR c (by have := HSZ.out; have := HS0.out; have := HS1.out; omega) (by have := HSZ.out; have := HS0.out; have := HS1.out; have := HBb.out; omega))
    ⟨rfl, KpX.refl _ _ _, Y6.out⟩
    (fun x a' W => ∃ b, a' = { tmps := #[.slice v1 k c, .slice ao qo co, .int .i64 t, undef, undef, undef, .pointer (some ⟨B, 0, none⟩), .pointer (some ⟨B + 1, 0, none⟩), .slice ga gn gc, undef, u10, .pointer (some ⟨b, 0, none⟩), .slice v1 k c, .int .i64 k, .int .i64 k, .bool false, u16, u17, u18, u19, u20, u21, u22, u23, u24, u25, u26, u27, u28, u29, u30, u31, u32, u33, .slice ga gn gc, .slice a1 m c1, .func (.func 110) #[] #[.pointer (some ⟨w1.heap.size, 0, none⟩)], .agg (setC vo L x).toArray, undef, undef], defers := [] } ∧ W2.heap.size ≤ b ∧ W.heap[b]? = some (.cells (setC vo L x).toArray 38) ∧ DatO N css2 x W)
    (fun a' x W W' row ⟨b, ha, hb, hx, hd⟩ hg hr => ⟨b, ha, hb, (hg.block b (qaa hx) (fun e => by obtain ⟨_, o, ho, hcell⟩ := hr b e.symm; rw [hx] at ho; cases ho; cases hcell)).trans hx, hd.keptO hg (fun r e => (hr r e).2)⟩) ?assign ?body ?done ?stop
   case assign =>
    intro l pre x W K hi hd hK
    have hNW : N ≤ W.heap.size := by rw [← HN.out]; exact hi.2.1.size
    have hbA : ∀ o, Below W.heap.size W (W.alloc o) := fun o => (Below.refl _ W).alloc (qN0) o
    unfold setV
    gi_wp2
    exact hK _ _ ((KeepsOthers.of_below (hbA _)).from _) (KpX.of_below hNW (hbA _)) ⟨hi.1, hi.2.1.trans (KpX.of_below hNW (hbA _)), ((hbA _).block B (qaa hi.2.2)).trans hi.2.2⟩ ⟨W.heap.size, rfl, by rw [HN.out]; exact hNW, knew W _, OwnK.below hd (hbA _)⟩
   case body =>
    rintro l pre x a' W ⟨rfl, hK, hx6⟩ ⟨b, rfl, hb, hbx, hdx⟩ hlt
    have hNW : N ≤ W.heap.size := by rw [← HN.out]; exact hK.size
    have hBN : B + 2 ≤ N := by have := HSZ.out; have := HS0.out; have := HS1.out; omega
    have hx7 : W.heap[B + 1]? = some (.cells #[.bool false] 4) := (hK.block (B + 1) (by omega) (by omega)).trans Y7.out
    have hfr := HFK.out W hK
    have hww : Below w.heap.size w W := HW2.out.trans (hK.below (by have := HBb.out; omega) (by have := HBb.out; omega))
    have hcs : ∃ p0 q0 k0 t1 t2 p3 q3 k3, setC vo L x = [.slice p0 q0 k0, .int .i64 t1, .int .u32 t2, .slice p3 q3 k3] := ⟨_, _, _, _, _, _, _, _, rfl⟩
    obtain ⟨p0, q0, k0, t1, t2, p3, q3, k3, ecs⟩ := hcs
    have HEC := qH0 ecs
    rw [ecs] at hbx
    have y0 := kcell hbx 0 _ rfl; have y1 := kcell hbx 1 _ rfl; have y2 := kcell hbx 2 _ rfl; have y3 := kcell hbx 3 _ rfl
    have z0 := kcell hx6 0 _ rfl; have z1 := kcell hx6 1 _ rfl; have z2 := kcell hx6 2 _ rfl; have z3 := kcell hx6 3 _ rfl; have z4 := kcell hx7 0 _ rfl
    have f0 := qab hx6 0; have f1 := qab hx6 1; have f2 := qab hx6 2; have f3 := qab hx6 3; have f4 := qab hx7 0
    have HD := qH0 hdx; have HF := qH0 hfr; have HWW := qH0 hww; have HX6 := qH0 hx6; have HX7 := qH0 hx7; have HNW := qH0 hNW
    rw [ecs]
    clear hbx hdx hfr hww hx6 hx7 ecs hNW HSEQ hK
    gi_wp2
    exact ⟨(((((KeepsOthers.setCell _ _ _).trans (KeepsOthers.setCell _ _ _)).trans (KeepsOthers.setCell _ _ _)).trans (KeepsOthers.setCell _ _ _)).trans (KeepsOthers.setCell _ _ _)).from _, of_fin HEC.out HX6.out HX7.out HD.out HF.out HWW.out (by rw [HBb.out]; exact qN0)⟩
   case done =>
    rintro d xs W hd hxs ⟨rfl, hK, hx6⟩ hD0
    have hDN : N ≤ d := by rw [HN.out] at hd; exact hd
    have hBN : B + 2 ≤ N := by have := HSZ.out; have := HS0.out; have := HS1.out; omega
    have hx7 : W.heap[B + 1]? = some (.cells #[.bool false] 4) := (hK.block (B + 1) (by omega) (by omega)).trans Y7.out
    have hww : Below w.heap.size w W := HW2.out.trans (hK.below (by have := HBb.out; omega) (by have := HBb.out; omega))
    have HRES : Hid (res = none) := qH0 (by
     rw [HOF.out, ← qgH, ← hxs]; rfl)
    have hBw : w.heap.size ≤ B := by rw [HBb.out]; exact qN0
    have z0 := kcell hx6 0 _ rfl; have z1 := kcell hx6 1 _ rfl; have z2 := kcell hx6 2 _ rfl; have z3 := kcell hx6 3 _ rfl; have z4 := kcell hx7 0 _ rfl
    have f0 := qab hx6 0; have f1 := qab hx6 1; have f2 := qab hx6 2; have f3 := qab hx6 3; have f4 := qab hx7 0
    obtain ⟨W5, hW5, k6, k7, k8, k9⟩ := qm4 hx6 hx7 hww hBw hD0 (by omega) (by omega)
    have e6 : (W5.putObj d (.deferred none)).heap[B]? = _ := (World.putObj_heap_other (by omega)).trans k6
    have e7 : (W5.putObj d (.deferred none)).heap[B + 1]? = _ := (World.putObj_heap_other (by omega)).trans k7
    have HWW : Hid (Below w.heap.size w (W5.putObj d (.deferred none))) := qH0 (qal k8 (show w.heap.size ≤ d by omega) (qN0))
    have c0 := kcell e6 0 _ rfl; have c1' := kcell e6 1 _ rfl; have c2 := kcell e6 2 _ rfl; have c3 := kcell e6 3 _ rfl; have c4 := kcell e7 0 _ rfl
    have HC0 := qH0 c0; have HC1 := qH0 c1'; have HC2 := qH0 c2; have HC3 := qH0 c3; have HC4 := qH0 c4
    have HW5 := qH0 hW5; have HK9 := qH0 k9
    clear hx6 hx7 hK e6 e7 c0 c1' c2 c3 c4 hww hxs hW5 k6 k7 k8 k9 hD0
    go_wp2
    rw [HW5.out]
    refine ⟨by simp, .inl ⟨_, _, rfl, run_takeDeferred HK9.out, ?_⟩⟩
    refine ⟨_, qeX rfl _ _ rfl rfl rfl rfl rfl rfl rfl HC0.out HC1.out HC2.out HC3.out HC4.out, ?_⟩
    rw [HRES.out]
    exact ⟨_, rfl, qjH _ _, HWW.out⟩
   case stop =>
    rintro d c3 pre W hd hp hX hK
    obtain ⟨rfl, x, rfl, hww, hx6, hx7, hdx, hfr⟩ := hX
    have hcs : ∃ p0 q0 k0 t1 t2 p3 q3 k3, setC vo L x = [.slice p0 q0 k0, .int .i64 t1, .int .u32 t2, .slice p3 q3 k3] := ⟨_, _, _, _, _, _, _, _, rfl⟩
    obtain ⟨p0, q0, k0, t1, t2, p3, q3, k3, ecs⟩ := hcs
    have HEC := qH0 ecs
    rw [ecs] at hx6
    have hr : ∀ r, some d = some r → ∃ o : Obj, W.heap[r]? = some o ∧ o.isCells = false := fun r e => by cases e; exact ⟨_, hK, rfl⟩
    have hg := grownBy_putObj' W d (.deferred none)
    have hDN : N ≤ d := by rw [HN.out] at hd; exact hd
    have hBN : B + 2 ≤ N := by have := HSZ.out; have := HS0.out; have := HS1.out; omega
    have e6 : (W.putObj d (.deferred none)).heap[B]? = _ := (World.putObj_heap_other (by omega)).trans hx6
    have e7 : (W.putObj d (.deferred none)).heap[B + 1]? = _ := (World.putObj_heap_other (by omega)).trans hx7
    have HS : Hid (FrSet (W.putObj d (.deferred none)) w.heap.size (setC vo L x) (setR L x.1.1)) := qH0 (qlS HM.out (by rw [HM.out]; exact HML.out) (by have := HBb.out; omega) (fun j h1 h2 => ((hfr j h1 h2).keptO hg hr).weaken (by have := HBb.out; omega)) HCC.out x (OwnC.keptO hdx hg hr))
    have HRES : Hid (res = some (setR L x.1.1)) := qH0 (by
     obtain ⟨t', ht'⟩ := hp
     rw [HOF.out, ← qgH, ← ht']; rfl)
    have HWW : Hid (Below w.heap.size w (W.putObj d (.deferred none))) := qH0 (qal hww (show w.heap.size ≤ d by have := HBb.out; omega) (qN0))
    rw [HEC.out] at HS
    have c0 := kcell e6 0 _ rfl; have c1' := kcell e6 1 _ rfl; have c2 := kcell e6 2 _ rfl; have c3 := kcell e6 3 _ rfl; have c4 := kcell e7 0 _ rfl
    have HC0 := qH0 c0; have HC1 := qH0 c1'; have HC2 := qH0 c2; have HC3 := qH0 c3; have HC4 := qH0 c4
    clear hx6 hx7 hdx hfr ecs hr hg e6 e7 c0 c1' c2 c3 c4 hww
    gi_wp2
    refine ⟨by simp, .inl ⟨_, _, rfl, run_takeDeferred hK, ?_⟩⟩
    refine ⟨_, qeX rfl _ _ rfl rfl rfl rfl rfl rfl rfl HC0.out HC1.out HC2.out HC3.out HC4.out, ?_⟩
    rw [HRES.out]
    exact ⟨_, rfl, HS.out, HWW.out⟩
end
end Go.Proofs.YtckammgnmgkieaaGreat
namespace Go.Proofs.YtckammgnmgkieaaGreat
set_option linter.unusedVariables false
set_option linter.unusedSimpArgs false
set_option maxRecDepth 100000
set_option maxHeartbeats 8000000
open Go.RowKit Go.Shelf
theorem qgR {W : World} {v : Value} {d : Dat} (h : DatAt W v d) : ∃ x3 x4 x5 x6 : Option Addr × Nat × Nat, v = .agg #[.int .i64 d.ty, .slice x3.1 x3.2.1 x3.2.2, .slice x4.1 x4.2.1 x4.2.2, .slice x5.1 x5.2.1 x5.2.2, .slice x6.1 x6.2.1 x6.2.2] := by
 obtain ⟨un, uu, ut, ur, e, h2⟩ := id h
 obtain ⟨x3, x4, x5, x6, e'⟩ := qbv (cs := [.int .i64 d.ty, un, uu, ut, ur]) (by subst e; exact h)
 refine ⟨x3, x4, x5, x6, ?_⟩
 rw [e, ← e']
theorem qhG (v u : Value) (a b : Dat) (w : World) (hA : DatAt w v a) (hU : DatAt w u b) (hk : DatOK a) (hk2 : DatOK b) :
 Calls Tryz.prog 142 #[v, u] w fun e w' => e = .returned (.bool (qao a b == 0)) ∧ Below w.heap.size w w' := by
 obtain ⟨x3, x4, x5, x6, e0⟩ := qgR hA
 obtain ⟨y3, y4, y5, y6, e1⟩ := qgR hU
 obtain ⟨p3, q3, r3⟩ := x3; obtain ⟨p4, q4, r4⟩ := x4; obtain ⟨p5, q5, r5⟩ := x5; obtain ⟨p6, q6, r6⟩ := x6
 obtain ⟨s3, t3, z3⟩ := y3; obtain ⟨s4, t4, z4⟩ := y4; obtain ⟨s5, t5, z5⟩ := y5; obtain ⟨s6, t6, z6⟩ := y6
 subst e0 e1
 have hb : Below w.heap.size w ((w.alloc (.cells #[.int .i64 a.ty, .slice p3 q3 r3, .slice p4 q4 r4, .slice p5 q5 r5, .slice p6 q6 r6] 107)).alloc (.cells #[.int .i64 b.ty, .slice s3 t3 z3, .slice s4 t4 z4, .slice s5 t5 z5, .slice s6 t6 z6] 107)) := ((Below.refl _ w).alloc (qN0) _).alloc (by simp) _
 have hc := qc1 _ _ a b _ (hA.below hb) (hU.below hb) hk hk2
 have HB := qH0 hb
 clear hA hU hk hk2 hb
 generalize qao a b = q at *
 generalize a.ty = ta at *
 generalize b.ty = tb at *
 go_enter Tryz.func142, Tryz.ntmps142
 go_wp2_with fail
 refine hc.mono ?_
 rintro e w1 ⟨rfl, hb1⟩
 go_wp2
 go_ret
 exact ⟨rfl, qB0 HB.out hb1⟩
theorem qhc (v u : Value) (css ess : List (List Value)) (l m : List Dat) (w : World) (hA : SlK w v css) (hR : Dts w css l) (hU : SlK w u ess) (hS : Dts w ess m) (hOK : ∀ r ∈ l, DatOK r) (hOK2 : ∀ r ∈ m, DatOK r) (hl : css.length ≤ 1048576) (hl2 : ess.length ≤ 1048576) :
 Calls Tryz.prog 99 #[v, u] w fun e w' => e = .returned (.bool (qap l m)) ∧ Below w.heap.size w w' := by
 obtain ⟨a, c, rfl, hc1, hc2, hx⟩ := id hA
 obtain ⟨b, d, rfl, hd1, hd2, hy⟩ := id hU
 obtain ⟨n, hn⟩ : ∃ n, css.length = n := ⟨_, rfl⟩
 obtain ⟨n2, hn2⟩ : ∃ n, ess.length = n := ⟨_, rfl⟩
 have HSA := qH0 hA; have HSU := qH0 hU; have HR := qH0 hR; have HS := qH0 hS; have HOK := qH0 hOK; have HOK2 := qH0 hOK2
 rw [hn] at HSA hc1 hl ⊢
 rw [hn2] at HSU hd1 hl2 ⊢
 have HN := qH0 hn; have HN2 := qH0 hn2
 have HLA := qH0 (show l.length = n by rw [← hn]; exact hR.1.symm)
 have HLB := qH0 (show m.length = n2 by rw [← hn2]; exact hS.1.symm)
 obtain ⟨res, hres⟩ : ∃ r, qap l m = r := ⟨_, rfl⟩
 rw [hres]
 have HRES := qH0 hres
 clear hA hU hR hS hOK hOK2 hc2 hx hd2 hy hn hn2 hres
 by_cases hnn : n = n2
 ·subst hnn
  have HB0 : Hid (Below w.heap.size w w) := qH0 (qL0)
  go_enter Tryz.func99, Tryz.ntmps99
  go_wp2
  go_loopw [5] (fun vi wr => ∃ (k : Nat), vi = .int .i64 k ∧ k ≤ n ∧ Hid (res = qap (l.drop k) (m.drop k)) ∧ Hid (Below w.heap.size w wr)) (fun vi _ => n - (intOf vi).toNat)
  case atStart => exact ⟨0, rfl, Nat.zero_le _, qH0 HRES.out.symm, HB0⟩
  case round =>
   obtain ⟨k, rfl, hk, HC, HB⟩ := hrel
   by_cases hlt : k < n
   ·have hltz : (k : Int) < (n : Int) := by omega
    have hk1 : k < css.length := by have := HN.out; omega
    have hk2 : k < ess.length := by have := HN2.out; omega
    have hk3 : k < l.length := by have := HLA.out; omega
    have hk4 : k < m.length := by have := HLB.out; omega
    obtain ⟨ga, oa, rfl, hga, hea⟩ := HSA.out.elem5 HR.out.ck (by omega)
    obtain ⟨gb, ob, rfl, hgb, heb⟩ := HSU.out.elem5 HS.out.ck (by omega)
    have h0 := (HR.out.2 k hk1 hk3).2
    have h1 := (HS.out.2 k hk2 hk4).2
    have hok := HOK.out _ (List.getElem_mem hk3)
    have hok2 := HOK2.out _ (List.getElem_mem hk4)
    have hst := qed k hk3 hk4
    obtain ⟨ra, hra⟩ : ∃ r, l[k]'hk3 = r := ⟨_, rfl⟩
    obtain ⟨rb, hrb⟩ : ∃ r, m[k]'hk4 = r := ⟨_, rfl⟩
    rw [hra] at h0 hok hst
    rw [hrb] at h1 hok2 hst
    clear hra hrb
    have htw := fun W (hb : Below w.heap.size w W) => qhG _ _ _ _ W (h0.below hb) (h1.below hb) hok hok2
    obtain ⟨⟨p3, q3, r3⟩, ⟨p4, q4, r4⟩, ⟨p5, q5, r5⟩, ⟨p6, q6, r6⟩, e0⟩ := qbv h0
    obtain ⟨⟨p3', q3', r3'⟩, ⟨p4', q4', r4'⟩, ⟨p5', q5', r5'⟩, ⟨p6', q6', r6'⟩, e1⟩ := qbv h1
    simp only at e0 e1
    have f0 := fun p : WIn (fun W => Below w.heap.size w W) => hea k hk1 _ _ _ _ _ e0 p.w p.ok
    have f1 := fun p : WIn (fun W => Below w.heap.size w W) => heb k hk2 _ _ _ _ _ e1 p.w p.ok
    have g0 := fun p => (f0 p).1; have g1 := fun p => (f0 p).2.1; have g2 := fun p => (f0 p).2.2.1; have g3 := fun p => (f0 p).2.2.2.1; have g4 := fun p => (f0 p).2.2.2.2
    have j0 := fun p => (f1 p).1; have j1 := fun p => (f1 p).2.1; have j2 := fun p => (f1 p).2.2.1; have j3 := fun p => (f1 p).2.2.2.1; have j4 := fun p => (f1 p).2.2.2.2
    rw [e0, e1] at htw
    obtain ⟨tw, htw'⟩ : ∃ t, (qao ra rb == 0) = t := ⟨_, rfl⟩
    rw [htw'] at htw hst
    have hcg := fun p : WIn (fun W => Below w.heap.size w W) => Calls.cls (C := fun W => Below w.heap.size w W) ((htw p.w p.ok).mono fun _ _ ⟨hq, hb⟩ => ⟨hq, p.ok.trans (hb.mono p.ok.size)⟩)
    have HC2 : Hid (res = (tw && qap (l.drop (k + 1)) (m.drop (k + 1)))) := qH0 (by rw [HC.out, hst])
    have hne : Nonempty (WIn (fun W => Below w.heap.size w W)) := ⟨⟨_, HB.out⟩⟩
    have hbd : Below w.heap.size w wr.drew := HB.out.trans ⟨rfl, rfl, rfl, qN0, fun _ _ => rfl⟩
    clear h0 h1 hok hok2 htw hst e0 e1 htw' hea heb hk1 hk2 hk3 hk4 f0 f1 HC
    cases tw
    ·have HE : Hid (res = false) := qH0 (by rw [HC2.out]; rfl)
     clear HC2
     go_wp2_with fail
     refine qaf (fun W => Below w.heap.size w W) qae (by kernel_rfl) hbd ?_
     repeat (go_big_quiet_step (exact hcg _))
     refine wpQuiet_nil ?_
     rintro _ ⟨p, rfl⟩
     have HB2 := qH0 p.ok
     clear g0 g1 g2 g3 g4 j0 j1 j2 j3 j4 hcg
     go_wp2
     go_ret
     exact ⟨by rw [HE.out]; rfl, HB2.out⟩
    ·have HE : Hid (res = qap (l.drop (k + 1)) (m.drop (k + 1))) := qH0 (by rw [HC2.out]; rfl)
     clear HC2
     go_wp2_with fail
     refine qaf (fun W => Below w.heap.size w W) qae (by kernel_rfl) hbd ?_
     repeat (go_big_quiet_step (exact hcg _))
     refine wpQuiet_nil ?_
     rintro _ ⟨p, rfl⟩
     have HB2 := qH0 p.ok
     clear g0 g1 g2 g3 g4 j0 j1 j2 j3 j4 hcg
     go_wp2
     go_roundw
     case measure => simp [intOf]; omega
     case rel => exact ⟨k + 1, by go_num, by omega, HE, HB2⟩
   ·obtain rfl : k = n := by omega
    have HE : Hid (res = true) := qH0 (by
     rw [HC.out, List.drop_of_length_le (by have := HLA.out; omega), List.drop_of_length_le (by have := HLB.out; omega)]; rfl)
    clear HC
    go_wp2
    go_ret
    exact ⟨by rw [HE.out]; rfl, HB.out⟩
 ·have hz : ¬ (n : Int) = (n2 : Int) := by omega
  have hzb : ((n : Int) != (n2 : Int)) = true := by simpa using hz
  have HE : Hid (res = false) := qH0 (by rw [← HRES.out]; exact qdc _ _ (by have := HLA.out; have := HLB.out; omega))
  go_enter Tryz.func99, Tryz.ntmps99
  go_wp2
  go_ret
  exact ⟨by rw [HE.out]; rfl, qL0⟩
end Go.Proofs.YtckammgnmgkieaaGreat
namespace Go.Proofs.YtckammgnmgkieaaGreat
set_option linter.unusedVariables false
set_option linter.unusedSimpArgs false
set_option maxRecDepth 20000
open Go.RowKit
structure Lk where
 kind : Int
 data : List Dat
 name : Nm
 wild : Bool
 glue : List (Nm × List Dat)
def toldM : List Nm → List (List UInt8) → List Nm
 | [], _ => []
 | h :: r, seen => if textN h ∈ seen then toldM r seen else h :: toldM r (textN h :: seen)
def firstN (s : St) : Nm := ((s.data.head?.map (·.names)).getD []).headD []
def pointD (s : St) : Bool := match s.data with | [] => false | d :: _ => !d.names.isEmpty
def referM (rs : List Rc) (n : Nm) (ns : St) : Lk := ⟨4, ns.data, n, false, (toldM (qaM ns.ty ns.data) []).filterMap fun h => if glueM rs h = [] then none else some (h, glueM rs h)⟩
def qaK (q n : Nm) (d : St) : Lk := if (swapN q n (firstN d)).2 = 0 then ⟨5, d.data.take 1, (swapN q n (firstN d)).1, false, []⟩ else ⟨6, [], [], false, []⟩
def atM (l : List Rc) (n : Nm) (t : Int) : Lk :=
 match ofM l n t with
 | some s => ⟨1, s.data, [], false, []⟩
 | none => match ofM l n 5 with
  | some c => if pointD c then ⟨5, c.data.take 1, firstN c, false, []⟩ else ⟨2, [], [], false, []⟩
  | none => ⟨2, [], [], false, []⟩
def stepM (o : Nm) (on rs : List Rc) (q : Nm) (s : Nat) : Option Lk :=
 match (if o.length < s then ofM on (ancN q s) 2 else none) with
 | some ns => some (referM rs (ancN q s) ns)
 | none => match (if s < q.length then ofM on (ancN q s) 39 else none) with
  | some d => if pointD d then some (qaK q (ancN q s) d) else none
  | none => none
def onM (rs : List Rc) (q : Nm) : List Rc := rs.filter fun r => underN q r.owner
def lookM (o : Nm) (rs : List Rc) (q : Nm) (t : Int) : Lk :=
 if underN q o = false then ⟨7, [], [], false, []⟩ else
 match (List.range' o.length (q.length + 1 - o.length)).findSome? (stepM o (onM rs q) rs q) with
 | some r => r
 | none => if qaq o rs q then atM (onM rs q) q t else if qaT o rs q then { atM rs (starM o rs q) t with wild := true } else ⟨3, [], [], false, []⟩
def sameG : List (Nm × List Dat) → List (Nm × List Dat) → Bool
 | [], [] => true
 | x :: r, y :: t => sameN x.1 y.1 && qap x.2 y.2 && sameG r t
 | _, _ => false
def sameLk (a b : Lk) : Bool := decide (a.kind = b.kind) && decide (a.wild = b.wild) && sameN a.name b.name && qap a.data b.data && sameG a.glue b.glue
theorem qc0 (l : List Rc) (o : Nm) (t : Int) : (ofM l o t = none ∧ l.filter (belM o t) = []) ∨ ∃ y r, canonM (l.filter (belM o t)) = y :: r ∧ ofM l o t = some (stR y (r.takeWhile (belR y))) := by
 unfold ofM
 cases h : canonM (l.filter (belM o t)) with
 | nil =>
  left
  refine ⟨by rw [qcs]; rfl, ?_⟩
  rw [List.eq_nil_iff_forall_not_mem]
  intro y hy
  obtain ⟨b, hb, _⟩ := qhw (l.filter (belM o t)) y hy
  rw [h] at hb; cases hb
 | cons y r =>
  right
  exact ⟨y, r, rfl, by rw [qa0]; rfl⟩
theorem qlv {l m : List Rc} {o p : Nm} {t : Int} (h : l.filter (belM o t) = m.filter (belM p t)) : ofM l o t = ofM m p t := by
 unfold ofM; rw [h]
theorem ofM_none {l : List Rc} {o : Nm} {t : Int} : ofM l o t = none ↔ ∀ r ∈ l, belM o t r = false := by
 rcases qc0 l o t with ⟨h, e⟩ | ⟨y, r, e, h⟩
 ·rw [h]
  simp only [true_iff]
  intro x hx
  rw [List.filter_eq_nil_iff] at e
  simpa using e x hx
 ·rw [h]
  simp only [reduceCtorEq, false_iff]
  intro hn
  have : l.filter (belM o t) = [] := List.filter_eq_nil_iff.2 (fun x hx => by rw [hn x hx]; simp)
  rw [this] at e
  have := qaL ([] : List Rc)
  rw [e] at this; simp at this
theorem qch {l : List Rc} {o : Nm} {t : Int} {s : St} (h : ofM l o t = some s) : s.data ≠ [] ∧ ∀ d ∈ s.data, d.ty = t := by
 rcases qc0 l o t with ⟨e, _⟩ | ⟨y, r, e, h2⟩
 ·rw [e] at h; cases h
 ·rw [h] at h2
  injection h2 with h2
  subst h2
  have hty : ∀ x ∈ y :: r, x.data.ty = t := fun x hx => by
   rw [← e] at hx
   obtain ⟨a, ha, h1, _⟩ := qhB _ x hx
   rw [← qjv h1]
   have := (List.mem_filter.1 ha).2
   simp only [belM, Bool.and_eq_true, decide_eq_true_eq] at this
   exact this.1
  refine ⟨by simp [stR], fun d hd => ?_⟩
  simp only [stR, List.mem_cons, List.mem_map] at hd
  rcases hd with rfl | ⟨x, hx, rfl⟩
  ·exact hty y (by simp)
  ·exact hty x (by have := (List.takeWhile_sublist (p := belR y) (l := r)).subset hx; simp [this])
theorem ofM_on {rs : List Rc} {q n : Nm} {t : Int} (h : underN q n = true) : ofM (onM rs q) n t = ofM rs n t := by
 apply qlv
 unfold onM
 rw [List.filter_filter]
 apply List.filter_congr
 intro r _
 cases hb : belM n t r
 ·rfl
 ·simp only [belM, Bool.and_eq_true] at hb
  rw [Bool.true_and, qdb hb.2, h]
end Go.Proofs.YtckammgnmgkieaaGreat
namespace Go.Proofs.YtckammgnmgkieaaGreat
set_option linter.unusedVariables false
set_option linter.unusedSimpArgs false
set_option maxRecDepth 100000
set_option maxHeartbeats 8000000
open Go.RowKit Go.Shelf
def checkR (r : Rc) : Int := if checkN r.owner ≠ 0 then checkN r.owner else if 2147483647 < r.ttl then 7 else checkD r.data
theorem qhT {S T : TypeId} {k bytes : Nat} {ops : Array Oper} {rest : List Oper} {o : Oper} {a : Act} {Q : Exit → Act → World → Prop} (W : World) (hgd : o.guard = none) (s x : Operand) (hE : ElemK k T S bytes) (hk0 : 0 < k)
 (ho : o.op = .call { callee := .builtin .append, args := #[s, x], argTypes := #[S, S] })
 (base : Nat) (v : Value) (xs : List (List Value)) (hs : a.eval s = v) (hown : OwnC k T W base v xs)
 (cs : List Value) (hcl : cs.length = k) (hc1 : ∀ u ∈ cs, u.oneCell' = true) (c : Nat) (hx : a.eval x = .slice (some ⟨W.heap.size, 0, none⟩) 1 c)
 (hbase : base ≤ W.heap.size) (hk : xs.length + 1 ≤ maxLen) (hk2 : (xs.length + 1) * bytes ≤ 140737488355328)
 (h : ∀ v' w', OwnC k T w' base v' (xs ++ [cs]) → W.grownBy w' v.ownBlock → wpList Tryz.prog ops Q rest (a.put o.dst v') w') :
 wpList Tryz.prog ops Q (o :: rest) a (W.alloc (.cells cs.toArray T)) := by
 obtain ⟨ht, i, z, hi, hz, hz1, hz2, hzc⟩ := hE
 refine wpList_append_own _ hgd s x S ho base T i z k bytes ht hi hz hz1 hz2 hzc hk0 v xs.length (xs.flatMap fun cs => cs) hs (hown.alloc _) ⟨W.heap.size, 0, none⟩ 1 c cs hx (by omega) (qbc W _ _) hc1 hk hk2 (by simp; omega) ?_
 intro v' w' h1 h2 _
 refine h v' w' ?_ (qaS h2)
 unfold OwnC OwnK
 rw [List.length_append, List.flatMap_append]
 have e : [cs].flatMap (fun cs => cs) = cs := by simp
 rw [e]
 exact h1
theorem qat : ElemK 7 109 28 136 := ⟨Tryz.underlying28, _, _, rfl, rfl, rfl, rfl, rfl⟩
def OfRs (w0 W : World) (base : Nat) (csd : List (List Value)) (l : List Rc) : Prop := csd.length = l.length ∧ ∀ j (h1 : j < csd.length) (h2 : j < l.length), OfR w0 W base csd[j] l[j]
theorem OfRs.snoc {w0 W W' : World} {base : Nat} {v : Value} {csd : List (List Value)} {l : List Rc} {cs : List Value} {r : Rc} (h : OfRs w0 W base csd l) (ho : OwnC 7 109 W base v csd) (hc : OfR w0 W base cs r) (hg : W.grownBy W' v.ownBlock) : OfRs w0 W' base (csd ++ [cs]) (l ++ [r]) := by
 refine ⟨by simp [h.1], fun j a b => ?_⟩
 by_cases hj : j < csd.length
 ·rw [List.getElem_append_left hj, List.getElem_append_left (by have := h.1; omega)]
  exact (h.2 j hj (by have := h.1; omega)).grown ho (by decide) hg
 ·obtain rfl : j = csd.length := by simp at a; omega
  have e1 : (csd ++ [cs])[csd.length]'a = cs := by simp
  have e2 : (l ++ [r])[csd.length]'b = r := by simp [h.1]
  rw [e1, e2]
  exact hc.grown ho (by decide) hg
theorem OfRs.below {w0 W W' : World} {base : Nat} {csd : List (List Value)} {l : List Rc} (h : OfRs w0 W base csd l) (hb : Below W.heap.size W W') : OfRs w0 W' base csd l := ⟨h.1, fun j a b => (h.2 j a b).below hb⟩
theorem OfR.len {w0 W : World} {base : Nat} {cs : List Value} {r : Rc} (h : OfR w0 W base cs r) : cs.length = 7 := by
 obtain ⟨vo, vn, vu, vt, vr, ss, rfl, _⟩ := h; rfl
def qek (w0 w : World) (l : List Rc) (e : Ending) (w' : World) : Prop := ∃ v' csd, e = .returned v' ∧ OwnC 7 109 w' w.heap.size v' csd ∧ OfRs w0 w' w.heap.size csd l ∧ Below w.heap.size w w'
theorem qkf (w0 : World) (v : Value) (css : List (List Value)) (l : List Rc) (w : World) (hA : SlK w0 v css) (hR : Rcs w0 css l) (hwz : Below w0.heap.size w0 w) (hN : ∀ r ∈ l, r.data.names.length ≤ 1048576) (hl : css.length ≤ 1048576) :
 Calls Tryz.prog 14 #[v] w (qek w0 w l) := by
 obtain ⟨a, c, rfl, hc1, -, -⟩ := id hA
 obtain ⟨n, hn⟩ : ∃ n, css.length = n := ⟨_, rfl⟩
 rw [hn] at hA hc1 hl ⊢
 have HA := qH0 hA; have HR := qH0 hR; have HWZ := qH0 hwz; have HN := qH0 hN; have HLN := qH0 hn
 have HLL := qH0 (show l.length = n by rw [← hn]; exact hR.1.symm)
 clear hA hR hwz hN hn
 go_enter Tryz.func14, Tryz.ntmps14
 go_wp2
 go_loopw [3, 4] (fun vo vi wr => ∃ (k : Nat) (ga : Option Addr) (gc : Nat) (csd : List (List Value)), vo = .slice ga k gc ∧ vi = .int .i64 k ∧ k ≤ n ∧ Hid (csd.length = k) ∧ Hid (OwnC 7 109 wr w.heap.size (.slice ga k gc) csd) ∧ Hid (OfRs w0 wr w.heap.size csd (l.take k)) ∧ Hid (Below w.heap.size w wr)) (fun _ vi _ => n - (intOf vi).toNat)
 case atStart => exact ⟨0, none, 0, [], rfl, rfl, Nat.zero_le _, qH0 rfl, qH0 (OwnK.nil _ _), qH0 ⟨rfl, fun j h => by simp at h⟩, qH0 (qL0)⟩
 case round =>
  obtain ⟨k, ga, gc, csd, rfl, rfl, hk, HK, HO, HF, HB⟩ := hrel
  by_cases hlt : k < n
  ·have hltz : (k : Int) < (n : Int) := by omega
   have hk1 : k < css.length := by have := HLN.out; omega
   have hk2 : k < l.length := by have := HLL.out; omega
   have hck : ∀ cs ∈ css, cs.length = 7 := fun cs hc => by
    obtain ⟨i, hi, rfl⟩ := List.mem_iff_getElem.1 hc
    exact (HR.out.2 i hi (by have := HR.out.1; omega)).len
   obtain ⟨b, off, rfl, hb, hel⟩ := HA.out.elem hck (by omega)
   have h0 := HR.out.2 k hk1 hk2
   have hnl := HN.out _ (List.getElem_mem hk2)
   have htk : l.take (k + 1) = l.take k ++ [l[k]] := List.take_succ_eq_append_getElem hk2
   obtain ⟨r, hr⟩ : ∃ r, l[k]'hk2 = r := ⟨_, rfl⟩
   rw [hr] at h0 hnl htk
   clear hr
   have HTK := qH0 htk
   have hof := qjo w0 _ r wr h0 (qB0 HWZ.out HB.out) hnl
   obtain ⟨⟨p0, q0, r0⟩, ⟨p3, q3, r3⟩, ⟨p4, q4, r4⟩, ⟨p5, q5, r5⟩, ⟨p6, q6, r6⟩, e0⟩ := h0.shape
   simp only at e0
   obtain ⟨c0, c1, c2, c3, c4, c5, c6⟩ := hel k hk1 _ _ _ _ _ _ _ e0 wr (qB0 HWZ.out HB.out)
   rw [e0] at hof
   clear h0 hnl htk e0 hel hk1 hk2 hck
   go_wp2_with fail
   refine hof.mono ?_
   rintro e w2 ⟨cs2, rfl, hof2, hb2⟩
   have hz2 := HB.out.size
   have HB2 := qH0 (qB0 HB.out hb2)
   have HO2 := qH0 (OwnK.below HO.out hb2)
   have HF2 := qH0 (HF.out.below hb2)
   have HOF := qH0 (hof2.weaken hz2)
   obtain ⟨vo, vn, vu, vt, vr, ss, rfl, g1, g2, g3, g4, g5, g6, g7⟩ := hof2
   obtain ⟨a0, d0, rfl, -⟩ := nmAt_sl.1 g1
   obtain ⟨a1, d1, rfl⟩ := g2.shape
   obtain ⟨a2, d2, rfl, -⟩ := id g5
   obtain ⟨a3, d3, rfl, -⟩ := nmAt_sl.1 g6
   obtain ⟨a4, d4, rfl, -⟩ := id g7
   clear g1 g2 g3 g4 g5 g6 g7
   generalize List.length (List.map strV r.owner) = m0 at *
   generalize ss.length = m1 at *
   generalize List.length (List.map u32V r.data.nums) = m2 at *
   generalize List.length (List.map strV r.data.texts) = m3 at *
   generalize List.length (List.map bv r.data.raw) = m4 at *
   have HSZ := qH0 HB2.out.size
   clear hb2 hof c0 c1 c2 c3 c4 c5 c6 HO HF HB
   go_wp2_with (at_builtin; refine qhT w2 rfl (.tmp 11) (.tmp 17) qat (by decide) rfl w.heap.size (.slice ga k gc) csd rfl HO2.out [.slice a0 m0 d0, .int .u32 (r.ttl : Int), .int .i64 r.data.ty, .slice a1 m1 d1, .slice a2 m2 d2, .slice a3 m3 d3, .slice a4 m4 d4] rfl (by intro u hu; simp only [List.mem_cons, List.not_mem_nil, or_false] at hu; rcases hu with rfl | rfl | rfl | rfl | rfl | rfl | rfl <;> rfl) 1 (by rfl) HSZ.out (by have := HK.out; unfold maxLen; omega) (by have := HK.out; omega) ?_; intro v3 w3 hown3 hg3)
   have HF3 := qH0 (HF2.out.snoc HO2.out HOF.out hg3)
   have HB3 := qH0 (HB2.out.grown hg3 HSZ.out (OwnK.base_le HO2.out))
   obtain ⟨a9, c9, e9⟩ := OwnK.shape hown3
   rw [List.length_append, HK.out] at e9
   simp only [List.length_cons, List.length_nil, Nat.zero_add] at e9
   subst e9
   have HO3 := qH0 hown3
   clear hg3 hown3
   go_roundw
   case measure => simp [intOf]; omega
   case rel => exact ⟨k + 1, a9, c9, _, rfl, by go_num, by omega, qH0 (by rw [List.length_append, HK.out]; rfl), HO3, qH0 (by rw [HTK.out]; exact HF3.out), HB3⟩
  ·obtain rfl : k = n := by omega
   go_wp2
   go_ret
   have h := HF.out
   rw [List.take_of_length_le (by have := HLL.out; omega)] at h
   exact ⟨_, csd, rfl, HO.out, h, HB.out⟩
theorem qfh (x : Rc) : ∀ (k : Nat) (c : List Rc), k ≤ c.length → (∀ j (h : j < c.length), j < k → qac c[j] x < 0) → (∀ h : k < c.length, 0 < qac c[k] x) → insR c x = c.take k ++ [x] ++ c.drop k
 | 0, [], _, _, _ => rfl
 | 0, y :: r, _, _, h => by
  have h0 := h (by simp)
  simp only [List.getElem_cons_zero] at h0
  rw [insR, if_neg (by omega), if_neg (by omega)]; rfl
 | k + 1, [], hk, _, _ => by simp at hk
 | k + 1, y :: r, hk, h1, h2 => by
  have h0 := h1 0 (by simp) (by omega)
  simp only [List.getElem_cons_zero] at h0
  have ih := qfh x k r (by simpa using hk) (fun j h hj => by have := h1 (j + 1) (by simp; omega) (by omega); simpa using this) (fun h => by have := h2 (by simp; omega); simpa using this)
  rw [insR, if_pos h0, ih]; rfl
theorem qhA (x : Rc) : ∀ (k : Nat) (c : List Rc) (hk : k < c.length), (∀ j (h : j < c.length), j < k → qac c[j] x < 0) → qac c[k] x = 0 → insR c x = c.set k ⟨c[k].owner, minT c[k].ttl x.ttl, c[k].data⟩
 | _, [], hk, _, _ => by simp at hk
 | 0, y :: r, _, _, h => by
  simp only [List.getElem_cons_zero] at h
  rw [insR, if_neg (by omega), if_pos h]; rfl
 | k + 1, y :: r, hk, h1, h2 => by
  have h0 := h1 0 (by simp) (by omega)
  simp only [List.getElem_cons_zero] at h0
  have ih := qhA x k r (by simpa using hk) (fun j h hj => by have := h1 (j + 1) (by simp; omega) (by omega); simpa using this) (by simpa using h2)
  rw [insR, if_pos h0, ih]; rfl
theorem qkz {y x : Rc} (hy : RcOK y) (hx : RcOK x) : RcOK ⟨y.owner, minT y.ttl x.ttl, y.data⟩ :=
 ⟨hy.1, by show minT y.ttl x.ttl < _; unfold minT; split; exact hx.2.1; exact hy.2.1, hy.2.2⟩
theorem qjn {x : Rc} (hx : RcOK x) : ∀ (l : List Rc), (∀ y ∈ l, RcOK y) → ∀ y ∈ insR l x, RcOK y
 | [], _, y, hy => by
  rw [insR, List.mem_singleton] at hy; subst hy; exact hx
 | z :: r, h, y, hy => by
  have hz := h z (by simp)
  rw [insR] at hy
  by_cases h1 : qac z x < 0
  ·rw [if_pos h1] at hy
   rcases List.mem_cons.1 hy with rfl | hy
   ·exact hz
   ·exact qjn hx r (fun a ha => h a (by simp [ha])) y hy
  ·rw [if_neg h1] at hy
   by_cases h2 : qac z x = 0
   ·rw [if_pos h2] at hy
    rcases List.mem_cons.1 hy with rfl | hy
    ·exact qkz hz hx
    ·exact h y (by simp [hy])
   ·rw [if_neg h2] at hy
    rcases List.mem_cons.1 hy with rfl | hy
    ·exact hx
    ·exact h y hy
theorem qgN (l : List Rc) : (∀ r ∈ l, RcOK r) → ∀ y ∈ canonM l, RcOK y :=
 qaW (P := fun l => (∀ r ∈ l, RcOK r) → ∀ y ∈ canonM l, RcOK y) (fun _ y hy => by cases hy) (fun l x ih h y hy => by
  rw [qa2] at hy
  exact qjn (h x (by simp)) _ (ih fun r hr => h r (by simp [hr])) y hy) l
theorem qiM {l : List Rc} {i : Nat} (h : i < l.length) : canonM (l.take (i + 1)) = insR (canonM (l.take i)) l[i] := by
 rw [List.take_succ_eq_append_getElem h, qa2]
end Go.Proofs.YtckammgnmgkieaaGreat
