/-
  What the document's lines of a report stand on. (Written by wip/tools/genrepl.py.)
-/
import Derived.Test.YtbnkecmhmcligaaDoorRepD
import Derived.Test.YtbnkecmhmcligaaDoorMQ32
import Derived.Deep.RegionHeld3
namespace Go.Proofs.YtbnkecmhmcligaaDoor
open Go.RowKit Go.Shelf
set_option maxRecDepth 20000
set_option linter.unusedVariables false
set_option linter.unusedSimpArgs false
/-- append of one text to a row of the call's own. -/
theorem step_append_l {ops : Array Oper} {o : Oper} {a : Act} {K : Act → World → Prop} {Q : Exit → Act → World → Prop} {E : Prop} (W : World) (h1 : o.guard = none) (s y : Operand) (h2 : o.op = .call { callee := .builtin .append, args := #[s, y], argTypes := #[35, 35] })
    (base : Nat) (la : Option Addr) (ln lc : Nat) (xs : Nm) (x : List UInt8) (h3 : a.eval s = .slice la ln lc) (hown : OwnG 9 strV W base (.slice la ln lc) xs) (h4 : a.eval y = .slice (some ⟨W.heap.size, 0, none⟩) 1 1) (hbase : base ≤ W.heap.size) (hl : xs.length ≤ 5000)
    (h : ∀ (g n c : Nat) (w8 : World), OwnG 9 strV w8 base (.slice (some ⟨g, 0, none⟩) n c) (xs ++ [x]) → (W.alloc (.cells #[strV x] 9)).grownBy w8 (Value.slice la ln lc).ownBlock → ((Value.slice la ln lc).ownBlock = some g ∨ g = W.heap.size + 1) → K (a.put o.dst (.slice (some ⟨g, 0, none⟩) n c)) w8) :
    if Region.wanted o (yielded ops a.tmps) = true then Oper.wp Tryd.prog o a (W.alloc (.cells #[strV x] 9)) K Q else E := by
  obtain ⟨ht, i, z, hi, hz, hz1, hz2, hzc⟩ := elemStr
  refine step_append_lies _ h1 s y _ h2 base 9 i z 1 16 ht hi hz hz1 hz2 hzc (by decide) (.slice la ln lc) xs.length (xs.map strV) h3 (hown.alloc _) ⟨W.heap.size, 0, none⟩ 1 1 [strV x] h4 rfl (World.news_of_block (cs := #[strV x]) (t := 9) (fr := (0, 0)) (knew W _)) (fun u hu => by
    obtain rfl := List.mem_singleton.1 hu; rfl) (by decide) (by unfold maxLen; omega) (by omega) (by rw [World.size_alloc]; omega) (W.heap.size + 1) (World.size_alloc _ _) ?_
  intro g cap w' q1 q2 q3 q4
  refine h g _ cap w' ?_ q2 q3
  unfold OwnG
  rw [List.length_append, List.map_append]
  exact q1
/-- The table of words, and what lay ahead. -/
structure LinT (W0 : World) (T : Nat) (cw : Array Value) (W : World) : Prop where
  t : W.heap[T]? = some (.cells cw 9)
  below : Below W0.heap.size W0 W
theorem LinT.keep {W0 : World} {T : Nat} {cw : Array Value} {W W' : World} (h : LinT W0 T cw W) (hb : Below W.heap.size W W') : LinT W0 T cw W' := ⟨(hb.block T (kblock_lt h.t)).trans h.t, h.below.trans (hb.mono h.below.size)⟩
theorem LinT.grown {W0 : World} {T : Nat} {cw : Array Value} {W W' : World} {row : Option Nat} (h : LinT W0 T cw W) (hg : W.grownBy W' row) (hr : ∀ b, row = some b → W0.heap.size ≤ b ∧ b ≠ T) : LinT W0 T cw W' :=
  ⟨(hg.block T (kblock_lt h.t) (fun e => (hr T e.symm).2 rfl)).trans h.t, h.below.grown hg h.below.size (fun k e => (hr k e).1)⟩
theorem cell_grown {W W' : World} {row : Option Nat} (hg : W.grownBy W' row) {b i : Nat} {v : Value} (h : W.cell? ⟨b, i, none⟩ = some v) (hr : ∀ c, row = some c → c ≠ b) : W'.cell? ⟨b, i, none⟩ = some v :=
  (World.cell?_of_block (a := ⟨b, i, none⟩) (hg.block b (World.block_lt_of_cell? W _ h) (fun e => hr b e.symm rfl))).trans h
theorem cell_below {W W' : World} (hb : Below W.heap.size W W') {b i : Nat} {v : Value} (h : W.cell? ⟨b, i, none⟩ = some v) : W'.cell? ⟨b, i, none⟩ = some v := (hb.cell (p := ⟨b, i, none⟩) (World.block_lt_of_cell? W _ h)).trans h
theorem below_drewL (W : World) : Below W.heap.size W W.drew := ⟨rfl, rfl, rfl, Nat.le_refl _, fun _ _ => rfl⟩
theorem OwnG.ltL {W : World} {base : Nat} {v : Value} {xs : Nm} (h : OwnG 9 strV W base v xs) : ∀ b, v.ownBlock = some b → b < W.heap.size := by
  intro b e
  rcases h.2 with ⟨rfl, _⟩ | ⟨g, cap, cur, rfl, _, hg, _⟩
  · cases e
  · simp only [Value.ownBlock] at e
    cases e
    exact (Array.getElem?_eq_some_iff.1 hg).1
theorem word_cell {l : List (List UInt8)} {W : World} {T : Nat} (h : W.heap[T]? = some (.cells (l.map strV).toArray 9)) (k : Int) (h0 : 0 ≤ k) (h1 : k < (l.length : Int)) : W.cell? ⟨T, k.toNat, none⟩ = some (.string ⟨(l.getD k.toNat []).toArray⟩) := by
  have hk : k.toNat < l.length := by omega
  refine kcell h k.toNat _ ?_
  rw [List.getD_eq_getElem?_getD, List.getElem?_eq_getElem hk]
  simp [hk, strV]
/-- A report that the document's side tells, too. -/
structure RpF (r : Rp) : Prop where
  ok : RpOK r
  errs : ∀ f ∈ r.errs, 0 ≤ f.line ∧ f.line ≤ 4611686018427387904
  flaws : ∀ f ∈ r.flaws, 0 ≤ f.ty ∧ f.ty ≤ 65535
  edges : ∀ f ∈ r.edges, 0 ≤ f.srv ∧ f.srv ≤ 4611686018427387904
  seen : ∀ f ∈ r.seen, (0 ≤ f.ty ∧ f.ty ≤ 65535) ∧ f.picks.length ≤ 1000 ∧ ∀ p ∈ f.picks, 0 ≤ p ∧ p ≤ 4611686018427387904
theorem ref_TyText (t : Int) (h : 0 ≤ t ∧ t ≤ 65535) (w : World) : Calls Tryd.prog 14 #[.int .i64 t] w fun e w' => e = .returned (.string ⟨(typeTextM t).toArray⟩) ∧ Below w.heap.size w w' := by
  obtain ⟨u, rfl⟩ : ∃ u : Nat, t = (u : Int) := ⟨t.toNat, by omega⟩
  exact ref_TypeText u w (by omega)
end Go.Proofs.YtbnkecmhmcligaaDoor
