/-
  Contracts of name.Len and name.Check.
-/
import Derived.Test.YtckammgnmgkieaaMQ16
import Derived.Test.YtckammgnmgkieaaMQ32
import Derived.Maps.AppendAt
import Derived.Maps.OwnIn
import Derived.StillTail
import Derived.StillTailTactics
import Derived.Deep.RegionHeld3
import Derived.Deep.RegionHeldLaw
import Derived.Deep.AppendLies
import Derived.Deep.DrawnRows
import Derived.Deep.QuietTactic
import Derived.BigQuiet
import Derived.Shelf.SlSortFuncK.RowK2
import Derived.Shelf.SlicesQ.Reverse
import Derived.Test.YtckammgnmgkieaaMQ23
import Derived.Sort.QuietTacIn
namespace Go.Proofs.Ytckammgnmgkieaa
set_option maxRecDepth 20000
open Go.RowKit Go.Shelf

/-- A name of a size that a machine bears. -/
def NmOK (xs : Nm) : Prop := xs.length ≤ 1048576 ∧ ∀ x ∈ xs, x.length ≤ 1048576
theorem NmOK.get {xs : Nm} (h : NmOK xs) (j : Nat) (hj : j < xs.length) : xs[j].length ≤ 1048576 := h.2 _ (List.getElem_mem hj)
theorem map_fin (xs : Nm) : (List.finRange xs.length).map (fun j => xs[j]) = xs := by
  apply List.ext_getElem (by simp)
  intro j h1 h2; simp
def sumN (xs : Nm) (pre : List (Fin xs.length)) : Nat := lenN (pre.map fun j => xs[j])
theorem sumN_le {xs : Nm} (h : NmOK xs) (pre : List (Fin xs.length)) : sumN xs pre ≤ 1 + pre.length * 1048577 := by
  unfold sumN
  induction pre with
  | nil => simp [lenN]
  | cons j r ih =>
    have := h.get j.val j.isLt
    simp only [List.map_cons, lenN_cons, List.length_cons, Fin.getElem_fin] at ih ⊢
    omega
theorem sumN_snoc (xs : Nm) (pre : List (Fin xs.length)) (j : Fin xs.length) : sumN xs (pre ++ [j]) = sumN xs pre + 1 + xs[j].length := by
  unfold sumN; rw [List.map_append]; exact lenN_snoc _ _

section
attribute [local go_sem] Oper.semAt_some
end
end Go.Proofs.Ytckammgnmgkieaa

/-
  A result that lies in a box; facts on a round's end.
-/
namespace Go.Proofs.Ytckammgnmgkieaa
set_option maxRecDepth 20000
open Go.RowKit Go.Shelf

theorem results_cell {fn : Func} {t : Tmp} {T : TypeId} {k : IntKind} (h : fn.results = #[.cell t T]) (hT : Try.prog.underlying T = some (.int k)) (tmps : Array Value) (W : World) {b : Nat} {v : Value}
    (ht : tmps.getD t undef = .pointer (some ⟨b, 0, none⟩)) (hc : W.cell? ⟨b, 0, none⟩ = some v) : (results fn tmps).run Try.prog W = .ok v W := by
  have ht' : tmps[t]?.getD undef = .pointer (some ⟨b, 0, none⟩) := by rw [← ht]; simp
  have hu : ∀ w, Sem.run Try.prog (underlying T) w = .ok _ w := run_underlying hT
  simp [results, h, ht', loadVar, asAddr, go_sem, hu, hc, isAgg]
theorem results_cellB {fn : Func} {t : Tmp} {T : TypeId} (h : fn.results = #[.cell t T]) (hT : Try.prog.underlying T = some .bool) (tmps : Array Value) (W : World) {b : Nat} {v : Value}
    (ht : tmps.getD t undef = .pointer (some ⟨b, 0, none⟩)) (hc : W.cell? ⟨b, 0, none⟩ = some v) : (results fn tmps).run Try.prog W = .ok v W := by
  have ht' : tmps[t]?.getD undef = .pointer (some ⟨b, 0, none⟩) := by rw [← ht]; simp
  have hu : ∀ w, Sem.run Try.prog (underlying T) w = .ok _ w := run_underlying hT
  simp [results, h, ht', loadVar, asAddr, go_sem, hu, hc, isAgg]
theorem out_cell {W : World} {h D : Nat} {T : TypeId} {v : Value} (hb : Boxed W h T v) (hne : h ≠ D) (o : Obj) : (W.putObj D o).cell? ⟨h, 0, none⟩ = some v :=
  (hb.kept (grownBy_putObj' W D o) (by intro e; cases e; exact hne rfl)).cell
theorem heap_setOther {W : World} {h D : Nat} {o : Obj} (hK : W.heap[D]? = some o) (hne : D ≠ h) (u : Value) : (W.setCell ⟨h, 0, none⟩ u).heap[D]? = some o := by
  rw [Below.heap_setCell W ⟨h, 0, none⟩ u D hne]; exact hK
theorem heap_below {W W' : World} {D : Nat} {o : Obj} (hK : W.heap[D]? = some o) (hb : Below W.heap.size W W') : W'.heap[D]? = some o :=
  (hb.block D (Array.getElem?_eq_some_iff.1 hK).1).trans hK
theorem below_putO {n D : Nat} {w W : World} {o' : Obj} (h : Below n w W) (hD : n ≤ D) (hn : n ≤ w.heap.size) : Below n w (W.putObj D o') :=
  h.trans ((Below.refl n W).grown (grownBy_putObj' W D o') (Nat.le_trans hn h.size) (fun k e => by cases e; exact hD))
end Go.Proofs.Ytckammgnmgkieaa

/-
  Rows of the call's own whose elements have k cells each; blocks of cells. (XTokR's first half.)
-/
namespace Go.Proofs.Ytckammgnmgkieaa
set_option maxRecDepth 20000
open Go.RowKit Go.Shelf
set_option maxRecDepth 20000

def OwnK {α : Type} (k : Nat) (T : TypeId) (enc : α → List Value) (W : World) (base : Nat) (v : Value) (xs : List α) : Prop := W.ownsRow base T k v xs.length (xs.flatMap enc)
structure ElemK (k : Nat) (T S : TypeId) (bytes : Nat) : Prop where
  ht : Try.prog.underlying S = some (.slice T)
  info : ∃ i z, Try.prog.info? T = some i ∧ i.zero = some z ∧ i.size = k ∧ i.bytes = bytes ∧ z.cells.size = k

theorem kcell {W : World} {B : Nat} {cs : Array Value} {t : TypeId} (h : W.heap[B]? = some (.cells cs t)) (j : Nat) (v : Value) (hv : cs[j]? = some v) : W.cell? ⟨B, j, none⟩ = some v := by
  simp only [World.cell?, h]
  simpa using hv
theorem kset {W : World} {B : Nat} {cs : Array Value} {t : TypeId} (h : W.heap[B]? = some (.cells cs t)) (j : Nat) (v : Value) : (W.setCell ⟨B, j, none⟩ v).heap[B]? = some (.cells (cs.setIfInBounds j v) t) := by
  obtain ⟨hlt, hk⟩ := Array.getElem?_eq_some_iff.1 h
  show (W.heap.modify B _)[B]? = _
  rw [Array.getElem?_eq_getElem (by rw [Array.size_modify]; exact hlt), Array.getElem_modify_self, hk]
  rfl
theorem kgrown_set (W : World) (b j : Nat) (v : Value) : W.grownBy (W.setCell ⟨b, j, none⟩ v) (some b) :=
  ⟨rfl, rfl, rfl, (KeepsWalks.setCell W _ v).size, fun k _ hk => Below.heap_setCell _ _ _ k (fun e => hk (by rw [e]))⟩
theorem kfrozen {W : World} {B : Nat} {cs : Array Value} {t : TypeId} (h : W.heap[B]? = some (.cells cs t)) (j : Nat) : W.frozen? ⟨B, j, none⟩ = false := by simp [World.frozen?, h]
theorem kblock_lt {W : World} {B : Nat} {o : Obj} (h : W.heap[B]? = some o) : B < W.heap.size := (Array.getElem?_eq_some_iff.1 h).1
theorem knew (W : World) (o : Obj) : (W.alloc o).heap[W.heap.size]? = some o := by
  show (W.heap.push o)[W.heap.size]? = some o
  simp

theorem kdrew {n : Nat} {a w : World} (h : Below n a w) : Below n a w.drew := h.trans ⟨rfl, rfl, rfl, Nat.le_refl _, fun _ _ => rfl⟩
theorem kregion_tail {P : Program} {id : Nat} {Q : Exit → Act → World → Prop} {a : Act} {w : World} {l : List Oper} (n : Nat) (hm : P.follows .mixedOrders = true) (hB : Region.lexTailB .any l.toArray n = true)
    (h : wpStill P l.toArray w.drew (fun a' => wpList P l.toArray Q (l.drop n) a' w.drew) (l.take n) a) : (Code.region id l.toArray true).wp P Q a w := wp_region_still_tail n hm hB h

theorem kg_refl (w : World) (r : Option Nat) : w.grownBy w r := ⟨rfl, rfl, rfl, Nat.le_refl _, fun _ _ _ => rfl⟩
theorem kg_trans {a b c : World} {r : Option Nat} (h : a.grownBy b r) (g : b.grownBy c r) : a.grownBy c r :=
  ⟨g.os.trans h.os, g.tape.trans h.tape, g.output.trans h.output, Nat.le_trans h.size g.size, fun k hk hne => (g.block k (Nat.lt_of_lt_of_le hk h.size) hne).trans (h.block k hk hne)⟩
theorem kg_drew (w : World) (r : Option Nat) : w.grownBy w.drew r := ⟨rfl, rfl, rfl, Nat.le_refl _, fun _ _ _ => rfl⟩
theorem kg_alloc (w : World) (o : Obj) (r : Option Nat) : w.grownBy (w.alloc o) r := by
  have h := World.grownBy_alloc w o none
  exact ⟨h.os, h.tape, h.output, h.size, fun k hk _ => h.block k hk (by simp)⟩

section
variable {α : Type} {k : Nat} {T S : TypeId} {enc : α → List Value}
theorem OwnK.alloc {W : World} {base : Nat} {v : Value} {xs : List α} (h : OwnK k T enc W base v xs) (o : Obj) : OwnK k T enc (W.alloc o) base v xs := World.ownsRow.alloc h o
theorem OwnK.nil (W : World) (base : Nat) : OwnK k T enc W base (.slice none 0 0) [] := World.ownsRow_nil _ _ _ _
theorem OwnK.base_le {W : World} {base : Nat} {v : Value} {xs : List α} (h : OwnK k T enc W base v xs) : ∀ b, v.ownBlock = some b → base ≤ b := by
  intro b hk
  rcases h.2 with ⟨rfl, _⟩ | ⟨g, cap, cur, rfl, hb, _⟩
  · simp [Value.ownBlock] at hk
  · obtain rfl : g = b := by simpa [Value.ownBlock] using hk
    exact hb
theorem OwnK.shape {W : World} {base : Nat} {v : Value} {xs : List α} (h : OwnK k T enc W base v xs) : ∃ a c, v = .slice a xs.length c := by
  rcases h.2 with ⟨rfl, h0⟩ | ⟨g, cap, cur, rfl, _⟩
  · exact ⟨none, 0, by rw [h0]⟩
  · exact ⟨_, _, rfl⟩
theorem OwnK.kept {W W' : World} {row : Option Nat} {base : Nat} {v : Value} {xs : List α} (h : OwnK k T enc W base v xs) (hg : W.grownBy W' row) (hne : v.ownBlock = none ∨ v.ownBlock ≠ row) : OwnK k T enc W' base v xs := World.ownsRow.kept h hg hne
theorem OwnK.below {W W' : World} {base : Nat} {v : Value} {xs : List α} (h : OwnK k T enc W base v xs) (hb : Below W.heap.size W W') : OwnK k T enc W' base v xs :=
  h.kept (row := none) ⟨hb.os, hb.tape, hb.output, hb.size, fun k hk _ => hb.block k hk⟩ (by cases v.ownBlock <;> simp)
theorem OwnK.lt {W : World} {base : Nat} {v : Value} {xs : List α} (h : OwnK k T enc W base v xs) : ∀ b, v.ownBlock = some b → b < W.heap.size := by
  intro b hk
  rcases h.2 with ⟨rfl, _⟩ | ⟨g, cap, cur, rfl, hb, hg, _⟩
  · simp [Value.ownBlock] at hk
  · obtain rfl : g = b := by simpa [Value.ownBlock] using hk
    exact (Array.getElem?_eq_some_iff.1 hg).1
theorem OwnK.weaken {W : World} {base b2 : Nat} {v : Value} {xs : List α} (h : OwnK k T enc W base v xs) (hb : b2 ≤ base) : OwnK k T enc W b2 v xs := by
  refine ⟨h.1, ?_⟩
  rcases h.2 with hn | ⟨g, cap, cur, e, hg, rest⟩
  · exact .inl hn
  · exact .inr ⟨g, cap, cur, e, by omega, rest⟩
theorem OwnK.ne_block {W : World} {base : Nat} {v : Value} {xs : List α} (h : OwnK k T enc W base v xs) {B : Nat} {cs : Array Value} {t : TypeId} (hB : W.heap[B]? = some (.cells cs t)) (ht : t ≠ T) : some B ≠ v.ownBlock := by
  rcases h.2 with ⟨rfl, _⟩ | ⟨g, cap, cur, rfl, _, hg, _⟩
  · simp [Value.ownBlock]
  · intro e
    obtain rfl : B = g := by simpa [Value.ownBlock] using e
    rw [hg] at hB
    cases hB
    exact ht rfl
theorem OwnK.apart {β : Type} {k' : Nat} {T' : TypeId} {enc' : β → List Value} {W : World} {base base' : Nat} {v v' : Value} {xs : List α} {ys : List β} (h : OwnK k T enc W base v xs) (h' : OwnK k' T' enc' W base' v' ys) (hT : T ≠ T') : v.ownBlock = none ∨ v.ownBlock ≠ v'.ownBlock := by
  rcases h.2 with ⟨rfl, _⟩ | ⟨g, cap, cur, rfl, _, hg, _⟩
  · left; rfl
  · right
    intro e
    exact h'.ne_block hg hT e
theorem OwnK.kept2 {β : Type} {k' : Nat} {T' : TypeId} {enc' : β → List Value} {W W' : World} {base base' : Nat} {v v' : Value} {xs : List α} {ys : List β} (h : OwnK k T enc W base v xs) (h' : OwnK k' T' enc' W base' v' ys) (hT : T ≠ T') (hg : W.grownBy W' v'.ownBlock) : OwnK k T enc W' base v xs :=
  h.kept hg (h.apart h' hT)
theorem OwnK.keptB {W : World} {base : Nat} {v : Value} {xs : List α} (h : OwnK k T enc W base v xs) {B : Nat} {cs : Array Value} {t : TypeId} (hB : W.heap[B]? = some (.cells cs t)) (ht : t ≠ T) (j : Nat) (u : Value) : OwnK k T enc (W.setCell ⟨B, j, none⟩ u) base v xs :=
  h.kept (kgrown_set W B j u) (.inr (fun e => h.ne_block hB ht e.symm))
/-- The row cut to its head. -/
theorem OwnK.cut {W : World} {base : Nat} {a : Option Addr} {n c : Nat} {xs : List α} (h : OwnK k T enc W base (.slice a n c) xs) (m : Nat) (hm : m ≤ xs.length) (henc : ∀ x, (enc x).length = k) : OwnK k T enc W base (.slice a m c) (xs.take m) := by
  have hlen : ∀ l : List α, (l.flatMap enc).length = l.length * k := by
    intro l; induction l with
    | nil => simp
    | cons x l ih => simp [ih, henc, Nat.add_mul, Nat.add_comm]
  have htake : ∀ (l : List α) (m : Nat), (l.take m).flatMap enc = (l.flatMap enc).take (m * k) := by
    intro l; induction l with
    | nil => intro m; simp
    | cons x l ih =>
      intro m
      cases m with
      | zero => simp
      | succ m =>
        rw [List.take_succ_cons, List.flatMap_cons, List.flatMap_cons, ih, Nat.succ_mul, Nat.add_comm (m * k) k, List.take_append, List.take_of_length_le (l := enc x) (by rw [henc]; omega), henc, Nat.add_sub_cancel_left]
  unfold OwnK World.ownsRow at h ⊢
  have hl : (xs.take m).length = m := by rw [List.length_take]; omega
  rw [hl]
  refine ⟨by rw [hlen, hl], ?_⟩
  rcases h.2 with ⟨e, h0⟩ | ⟨g, cap, cur, e, hb, hg, hc, hmx, hsz, htk⟩
  · cases e
    left
    exact ⟨by congr 1; omega, by omega⟩
  · cases e
    right
    refine ⟨g, c, cur, rfl, hb, hg, by omega, hmx, hsz, ?_⟩
    rw [htake, ← htk, List.take_take]
    congr 1
    exact (Nat.min_eq_left (Nat.mul_le_mul_right k hm)).symm

theorem wpl_append_k {ops : Array Oper} {rest : List Oper} {o : Oper} {a : Act} {Q : Exit → Act → World → Prop} (W : World) (hgd : o.guard = none) (s x : Operand) {bytes : Nat} (hE : ElemK k T S bytes) (hk0 : 0 < k)
    (ho : o.op = .call { callee := .builtin .append, args := #[s, x], argTypes := #[S, S] }) (hone : ∀ x : α, ∀ u ∈ enc x, u.oneCell' = true)
    (base : Nat) (v : Value) (xs : List α) (hs : a.eval s = v) (hown : OwnK k T enc W base v xs)
    (cells : List Value) (news : List α) (hcells : cells = news.flatMap enc) (hcl : cells.length = news.length * k) (m c : Nat) (hx : a.eval x = .slice (some ⟨W.heap.size, 0, none⟩) m c) (hm : m = news.length)
    (hbase : base ≤ W.heap.size) (hk : xs.length + news.length ≤ maxLen) (hk2 : (xs.length + news.length) * bytes ≤ 140737488355328)
    (h : ∀ v' w', OwnK k T enc w' base v' (xs ++ news) → W.grownBy w' v.ownBlock → (v'.ownBlock = v.ownBlock ∨ v'.ownBlock = some (W.heap.size + 1)) → wpList Try.prog ops Q rest (a.put o.dst v') w') :
    wpList Try.prog ops Q (o :: rest) a (W.alloc (.cells cells.toArray T)) := by
  subst hcells hm
  obtain ⟨ht, i, z, hi, hz, hz1, hz2, hzc⟩ := hE
  refine wpList_append_own_at _ hgd s x S ho base T i z k bytes ht hi hz hz1 hz2 hzc hk0 v xs.length (xs.flatMap enc) hs (hown.alloc _) ⟨W.heap.size, 0, none⟩ news.length c (news.flatMap enc) hx hcl (cells_new W _ _) (by intro u hu; obtain ⟨y, _, hy⟩ := List.mem_flatMap.1 hu; exact hone y u hy) hk hk2 (by simp; omega) ?_
  intro v' w' h1 h2 _ h4
  refine h v' w' ?_ (grownBy_of_alloc h2) (by simpa using h4)
  unfold OwnK
  rw [List.length_append, List.flatMap_append]
  exact h1
end

end Go.Proofs.Ytckammgnmgkieaa

/-
  A drawn region of reads and calls, over any class of worlds.
-/
namespace Go.Proofs.Ytckammgnmgkieaa
set_option maxRecDepth 20000
open Go.RowKit Go.Shelf

/-- A world of a class. -/
structure WIn (C : World → Prop) where
  w : World
  ok : C w
theorem wp_region_cls {P : Program} {id : Nat} {Q : Exit → Act → World → Prop} {a : Act} {w : World} {l : List Oper} (C : World → Prop) (hm : P.follows .mixedOrders = true) (hB : Region.lexB .any l.toArray = true) (hC : C w.drew)
    (h : wpQuiet P l.toArray (fun w' => ∃ p : WIn C, w' = p.w) (fun a' => ∀ w', (∃ p : WIn C, w' = p.w) → Q .normal a' w') l a) : (Code.region id l.toArray true).wp P Q a w :=
  wp_region_quiet (C := fun w' => ∃ p : WIn C, w' = p.w) hm hB ⟨⟨w.drew, hC⟩, rfl⟩ (by simpa using h)
theorem Calls.cls {C : World → Prop} {P : Program} {f : FuncId} {args : Array Value} {w : World} {v : Value}
    (h : Calls P f args w fun e w' => e = .returned v ∧ C w') : Calls P f args w fun e w'' => e = .returned v ∧ ∃ q : WIn C, w'' = q.w :=
  h.mono fun _ w' ⟨he, hc⟩ => ⟨he, ⟨w', hc⟩, rfl⟩
end Go.Proofs.Ytckammgnmgkieaa

/-
  The worlds of a sort in place: a row of the call's own, all else as it lay.
-/
namespace Go.Proofs.Ytckammgnmgkieaa
set_option maxRecDepth 20000
open Go.RowKit Go.Shelf Go.Sort Go.Lib
set_option linter.unusedSectionVars false

section
variable {α : Type} [Inhabited α]
/-- The row holds d; whatever else lay in w lies there still. -/
structure SW (enc : α → List Value) (k : Nat) (w : World) (blk off : Nat) (d : Array α) (W : World) : Prop where
  row : HoldsK enc k W blk off d
  rest : w.grownBy W (some blk)
  lt : blk < w.heap.size
theorem SW.refl {enc : α → List Value} {k : Nat} {w : World} {blk off : Nat} {d : Array α} (h : HoldsK enc k w blk off d) (hlt : blk < w.heap.size) : SW enc k w blk off d w := ⟨h, kg_refl w _, hlt⟩
theorem SW.drew {enc : α → List Value} {k : Nat} {w W : World} {blk off : Nat} {d : Array α} (h : SW enc k w blk off d W) : SW enc k w blk off d W.drew := ⟨h.row, kg_trans h.rest (kg_drew W _), h.lt⟩
theorem kg_below {W W' : World} (r : Option Nat) (hb : Below W.heap.size W W') : W.grownBy W' r := ⟨hb.os, hb.tape, hb.output, hb.size, fun k hk _ => hb.block k hk⟩
theorem SW.lt' {enc : α → List Value} {k : Nat} {w W : World} {blk off : Nat} {d : Array α} (h : SW enc k w blk off d W) : blk < W.heap.size := Nat.lt_of_lt_of_le h.lt h.rest.size
theorem SW.below {enc : α → List Value} {k : Nat} {w W W' : World} {blk off : Nat} {d : Array α} (h : SW enc k w blk off d W) (hb : Below W.heap.size W W') : SW enc k w blk off d W' := by
  refine ⟨fun j hj => ?_, kg_trans h.rest (kg_below _ hb), h.lt⟩
  have h1 := h.row j hj
  exact ⟨(hb.cell (p := ⟨blk, off + j, none⟩) h.lt').trans h1.1, (hb.frozen (p := ⟨blk, off + j, none⟩) h.lt').trans h1.2⟩
theorem SW.trans {enc : α → List Value} {k : Nat} {w W W' : World} {blk off : Nat} {d d' : Array α} (h : SW enc k w blk off d W) (g : SW enc k W blk off d' W') : SW enc k w blk off d' W' := ⟨g.row, kg_trans h.rest g.rest, h.lt⟩
theorem kg_setCells (blk : Nat) : ∀ (vs : List Value) (o : Nat) (w : World), w.grownBy (w.setCells blk o vs) (some blk)
  | [], _, w => kg_refl w _
  | v :: r, o, w => by
    rw [World.setCells]
    exact kg_trans (kgrown_set w blk o v) (kg_setCells blk r (o + 1) _)
/-- The exchange's two runs of stores. -/
theorem SW.swap {enc : α → List Value} {k : Nat} {w W : World} {blk off : Nat} {d : Array α} (hk : ∀ x, (enc x).length = k) (h : SW enc k w blk off d W) (i j : Nat) (hi : i < d.size) (hj : j < d.size) :
    SW enc k w blk off (swp d i j) ((W.setCells blk (off + i * k) (enc d[j]!)).setCells blk (off + j * k) (enc d[i]!)) := by
  refine ⟨?_, kg_trans (kg_trans h.rest (kg_setCells _ _ _ _)) (kg_setCells _ _ _ _), h.lt⟩
  have e : (W.setCells blk (off + i * k) (enc d[j]!)).setCells blk (off + j * k) (enc d[i]!) = putRowK enc k W blk off (swp d i j) := by
    conv => lhs; rw [← putRowK_self enc k W blk off d h.row]
    exact putRowK_swp enc k hk W blk off d i j hi hj
  rw [e]
  exact holdsK_putRowK enc k W blk off d _ h.row (by rw [size_swp])
theorem holds_setCells_c {W : World} {blk off : Nat} {F : Array Value} (h : Holds id W blk off F) (s : Nat) (vs : List Value) (hs : s + vs.length ≤ F.size) : Holds id (W.setCells blk (off + s) vs) blk off (setMany F s vs) := by
  have e : W.setCells blk (off + s) vs = putRow id W blk off (setMany F s vs) := by
    conv => lhs; rw [← putRow_self id W blk off F h]
    exact setCells_putRow _ _ _ _ _ _ hs
  rw [e]
  exact holds_putRow id W blk off F _ h (by rw [size_setMany])
/-- The loads and stores of an exchange. -/
theorem SW.load {enc : α → List Value} {k : Nat} {w W : World} {blk off : Nat} {d : Array α} (P : Program) (hk : ∀ x, (enc x).length = k) (h : SW enc k w blk off d W) (i : Nat) (hi : i < d.size) :
    Sem.run P (loadCellsFrom ⟨blk, off + i * k, none⟩ 0 k #[]) W = .ok (enc d[i]!).toArray W := run_loadCellsFrom_list P _ _ _ k (hk _) (HoldsK.cells h.row hk hi)
theorem bnd_k {n x k : Nat} (hx : x < n) : x * k + k ≤ n * k := by
  have := Nat.mul_le_mul_right k (show x + 1 ≤ n from hx); rwa [Nat.add_mul, Nat.one_mul] at this
theorem SW.store1 {enc : α → List Value} {k : Nat} {w W : World} {blk off : Nat} {d : Array α} (P : Program) (hk : ∀ x, (enc x).length = k) (h1 : ∀ x, ∀ v ∈ enc x, v.oneCell' = true) (h : SW enc k w blk off d W) (i : Nat) (hi : i < d.size) (x : α) :
    Sem.run P (storeCells ⟨blk, off + i * k, none⟩ (enc x) 0) W = .ok () (W.setCells blk (off + i * k) (enc x)) := stores_of_holds P h.row (i * k) _ (by rw [hk, size_flatK]; exact bnd_k hi) (h1 _)
theorem SW.store2 {enc : α → List Value} {k : Nat} {w W : World} {blk off : Nat} {d : Array α} (P : Program) (hk : ∀ x, (enc x).length = k) (h1 : ∀ x, ∀ v ∈ enc x, v.oneCell' = true) (h : SW enc k w blk off d W) (i j : Nat) (hi : i < d.size) (hj : j < d.size) (x y : α) :
    Sem.run P (storeCells ⟨blk, off + j * k, none⟩ (enc y) 0) (W.setCells blk (off + i * k) (enc x)) = .ok () ((W.setCells blk (off + i * k) (enc x)).setCells blk (off + j * k) (enc y)) :=
  stores_of_holds P (holds_setCells_c h.row (i * k) _ (by rw [hk, size_flatK]; exact bnd_k hi)) (j * k) _ (by rw [hk, size_setMany, size_flatK]; exact bnd_k hj) (h1 _)
end
end Go.Proofs.Ytckammgnmgkieaa

/-
  Contract of name.Check.
-/
namespace Go.Proofs.Ytckammgnmgkieaa
set_option maxRecDepth 20000
open Go.RowKit Go.Shelf

/-- The labels of the indexes. -/
def atN (xs : Nm) (pre : List (Fin xs.length)) : Nm := pre.map fun j => xs[j]
theorem atN_snoc (xs : Nm) (pre : List (Fin xs.length)) (j : Fin xs.length) : atN xs (pre ++ [j]) = atN xs pre ++ [xs[j]] := by simp [atN]
theorem atN_all (xs : Nm) : atN xs (List.finRange xs.length) = xs := map_fin xs
theorem atN_prefix {xs : Nm} {pre : List (Fin xs.length)} (h : pre <+: List.finRange xs.length) : atN xs pre <+: xs := by
  have := h.map fun j => xs[j]; rwa [map_fin] at this

section
attribute [local go_sem] Oper.semAt_some
end
end Go.Proofs.Ytckammgnmgkieaa

/-
  Contract of name.Same.
-/
namespace Go.Proofs.Ytckammgnmgkieaa
set_option maxRecDepth 20000
open Go.RowKit Go.Shelf

theorem KeepN.drewN {b : Nat} {v : Value} (W : World) (n : Nat) : KeepN b v W (W.drewN n) := ⟨rfl, fun _ _ => rfl⟩
theorem keepsOthers_drewN (W : World) (n : Nat) : KeepsOthers W (W.drewN n) := ⟨Nat.le_refl _, fun _ _ h _ => h⟩
theorem below_drewQ {B : Nat} {a w : World} (h : Below B a w) (n : Nat) : Below B a (w.drewN n) := h.trans ⟨rfl, rfl, rfl, Nat.le_refl _, fun _ _ => rfl⟩
/-- The cell of a label. -/
theorem StrsAt.cell {W W' : World} {a : Option Addr} {c : Nat} {xs : Nm} (h : StrsAt W (.slice a xs.length c) xs) (hb : Below W.heap.size W W') (j : Nat) (hj : j < xs.length) :
    ∃ g off, a = some ⟨g, off, none⟩ ∧ g < W.heap.size ∧ W'.cell? ⟨g, off + j, none⟩ = some (strV xs[j]) := by
  obtain ⟨a', c', e, hx⟩ := h
  cases e
  rcases hx with e | ⟨g, off, rfl, hg, hc⟩
  · subst e; simp at hj
  · exact ⟨g, off, rfl, hg, (hb.cell (p := ⟨g, off + j, none⟩) hg).trans (hc j hj)⟩
theorem str_at {l : List UInt8} {s : ByteArray} (h : strV l = .string s) : (⟨l.toArray⟩ : ByteArray) = s := by unfold strV at h; cases h; rfl

section
attribute [local go_sem] Oper.semAt_some
set_option maxRecDepth 100000 in
set_option maxHeartbeats 2000000 in
theorem name_Same (v u : Value) (xs ys : Nm) (w : World) (hA : StrsAt w v xs) (hU : StrsAt w u ys) (hk : NmOK xs) (hk2 : NmOK ys) :
    Calls Try.prog 12 #[v, u] w fun e w' => e = .returned (.bool (sameN xs ys)) ∧ Below w.heap.size w w' := by
  obtain ⟨a, c, rfl, _⟩ := id hA
  obtain ⟨a2, c2, rfl, _⟩ := id hU
  refine (callsIn_wide (n := 5)).1 ?_
  refine callsIn_of_wp_marks Try.func12 rfl trivial ?_ rfl
  simp only [Try.ntmps12, List.size_toArray, List.length_cons, List.length_nil, Nat.reduceAdd, Nat.reduceSub, Array.replicate_succ, Array.replicate_zero, List.push_toArray, List.append_toArray, List.nil_append, List.cons_append]
  by_cases hne : ((xs.length : Int) != (ys.length : Int)) = true
  · have h0 : sameN xs ys = false := sameN_len (by intro e; rw [e] at hne; simp at hne)
    have H0 := Lib.hid h0; clear h0
    gi_wp2
    have hI : Boxed ((w.alloc (.cells #[.slice a2 ys.length c2] 23)).alloc (.cells #[.bool false] 4)) (w.heap.size + 1) 4 (.bool false) := by
      have := Boxed.new (w.alloc (.cells #[.slice a2 ys.length c2] 23)) 4 (.bool false)
      rwa [World.size_alloc] at this
    refine ⟨_, results_cellB rfl Try.underlying4 _ _ rfl hI.cell, by rw [H0.out], ?_⟩
    exact ((Below.refl _ w).alloc (Nat.le_refl _) _).alloc (by simp) _
  have hlen : ((xs.length : Int) != (ys.length : Int)) = false := by simpa using hne
  have hel : xs.length = ys.length := by simp at hlen; omega
  have HE := Lib.hid hel; clear hel hne
  gi_wp2_with (refine ⟨trivial, ?_⟩; gi_at_call 27; refine (callsIn_wide.2 (name_labels _ _ _ _)).mono ?_; rintro e w' ⟨rfl, rfl⟩)
  obtain ⟨W0, hW0⟩ : ∃ W0, (((w.alloc (.cells #[.slice a2 ys.length c2] 23)).alloc (.cells #[.bool false] 4)).alloc (.cells #[.slice a xs.length c] 23)) = W0 := ⟨_, rfl⟩
  have bU : Boxed W0 w.heap.size 23 (.slice a2 ys.length c2) := by rw [← hW0]; exact ((Boxed.new w _ _).alloc _).alloc _
  have bI : Boxed W0 (w.heap.size + 1) 4 (.bool false) := by
    have := Boxed.new (w.alloc (.cells #[.slice a2 ys.length c2] 23)) 4 (.bool false)
    rw [World.size_alloc] at this
    rw [← hW0]; exact this.alloc _
  have bV : Boxed W0 (w.heap.size + 1 + 1) 23 (.slice a xs.length c) := by
    have := Boxed.new ((w.alloc (.cells #[.slice a2 ys.length c2] 23)).alloc (.cells #[.bool false] 4)) 23 (.slice a xs.length c)
    rw [World.size_alloc, World.size_alloc] at this
    rw [← hW0]; exact this
  have hsz : W0.heap.size = w.heap.size + 3 := by rw [← hW0]; simp
  have hB0 : Below w.heap.size w W0 := by rw [← hW0]; exact (((Below.refl _ w).alloc (Nat.le_refl _) _).alloc (by simp) _).alloc (by simp; omega) _
  have hrow := hA.row_lt
  rw [hW0]
  have HZ := Lib.hid hsz; clear hsz hW0
  refine wpIn_rangeFunc_ownG rfl (by omega) (gf := 53) (lb := #[.pointer (some ⟨w.heap.size + 1 + 1, 0, none⟩)]) rfl trivial (enters_of Try.func53 (by kernel_rfl) rfl)
    (labels_stops _ (by omega) (w.heap.size + 1 + 1) (.slice a xs.length c) xs (by have := hk.1; unfold maxLen; omega) W0 (by rw [HZ.out]; omega) bV.cell (hA.below hB0)) keepN_t (keepN_b (by rw [HZ.out]; omega) (fun g e => by have := hrow g e; rw [HZ.out]; omega)) (Below.refl _ _) (fun _ => rfl)
    (fun pre W => Boxed W w.heap.size 23 (.slice a2 ys.length c2) ∧ Boxed W (w.heap.size + 1) 4 (.bool false) ∧ Below w.heap.size w W ∧ ∀ j ∈ pre, ∀ h : j.val < ys.length, sameM xs[j] ys[j.val] = true)
    (fun k _ W => k = .ret ∧ Boxed W (w.heap.size + 1) 4 (.bool false) ∧ Below w.heap.size w W ∧ sameN xs ys = false)
    (OwnFrom.and (Own.from (boxed_own _ _ _) _) (OwnFrom.and (Own.from (boxed_own _ _ _) _) (OwnFrom.and (ownFrom_below (Nat.le_refl _) (by rw [HZ.out]; omega)) (ownFrom_pure _ _))))
    (fun _ => OwnFrom.and (ownFrom_pure _ _) (OwnFrom.and (Own.from (boxed_own _ _ _) _) (OwnFrom.and (ownFrom_below (Nat.le_refl _) (by rw [HZ.out]; omega)) (ownFrom_pure _ _))))
    ⟨bU, bI, hB0, by simp⟩
    (fun j => { tmps := #[.slice a xs.length c, .slice a2 ys.length c2, undef, .pointer (some ⟨w.heap.size, 0, none⟩), .pointer (some ⟨w.heap.size + 1, 0, none⟩), .int .i64 (j.val : Int), .string ⟨xs[j].toArray⟩, .slice a xs.length c, .int .i64 xs.length, .slice a2 ys.length c2, .int .i64 ys.length, .bool false, .slice a xs.length c, .func (.func 53) #[] #[.pointer (some ⟨w.heap.size + 1 + 1, 0, none⟩)], .int .i64 (j.val : Int), .string ⟨xs[j].toArray⟩, undef, undef, undef, undef, undef, undef, undef], defers := [] }) ?assign ?body ?done ?stop
  case assign =>
    intro l x W K hK
    unfold idxV strV
    gi_wp2
    exact hK
  case body =>
    rintro l pre x W ⟨hU2, hI, hB, hC⟩ hlt
    have cu := hU2.cell
    have c0 := hI.cell; have f0 := hI.frozen
    have hxi : x.val < xs.length := x.isLt
    have hyi : x.val < ys.length := by rw [← HE.out]; exact hxi
    obtain ⟨g, off, rfl, hg, hcell⟩ := hU.cell hB x.val hyi
    have hx1 : xs[x].length ≤ 1048576 := hk.get x.val x.isLt
    have hy1 : ys[x.val].length ≤ 1048576 := hk2.get x.val hyi
    obtain ⟨sx, hsx, hsz, hsv⟩ := str_of xs[x]
    obtain ⟨sy, hsy, hsz2, hsv2⟩ := str_of ys[x.val]
    have hS := fun W => label_Same sx sy W (by unfold maxLen; omega) (by unfold maxLen; omega)
    rw [hsx, hsy] at hS
    rw [str_at hsv]
    rw [hsv2] at hcell
    generalize hq : sameM xs[x] ys[x.val] = q at *
    have HQ := Lib.hid hq
    clear hsx hsy hsz hsz2 hsv hsv2 hx1 hy1 hq
    cases q with
    | true =>
      gi_wp2_with (refine ⟨trivial, ?_⟩; gi_at_call 28; refine (CallsIn.inRound l (callsIn_wide.2 (hS _))).mono ?_; rintro e w' ⟨rfl, n, rfl⟩)
      refine ⟨(keepsOthers_drewN _ _).from _, KeepN.drewN _ _, hU2, hI, below_drewQ hB _, ?_⟩
      intro j hj h
      rcases List.mem_append.1 hj with hj | hj
      · exact hC j hj h
      · obtain rfl := List.mem_singleton.1 hj; exact HQ.out
    | false =>
      have H0 : Hid (sameN xs ys = false) := Lib.hid (sameN_not_get x.val hxi hyi HQ.out)
      gi_wp2_with (refine ⟨trivial, ?_⟩; gi_at_call 28; refine (CallsIn.inRound l (callsIn_wide.2 (hS _))).mono ?_; rintro e w' ⟨rfl, n, rfl⟩)
      refine ⟨((keepsOthers_drewN _ _).trans (KeepsOthers.setCell _ _ _)).from _, rfl, ?_, ?_, H0.out⟩
      · exact Boxed.set (.bool false) (show Boxed (W.drewN n) (w.heap.size + 1) 4 (.bool false) from hI)
      · exact (below_drewQ hB _).setCell (p := ⟨w.heap.size + 1, 0, none⟩) (by simp) _
  case done =>
    rintro D zs W hD rfl ⟨hU2, hI, hB, hC⟩ hK
    have c0 := hI.cell; have f0 := hI.frozen
    have hDn : w.heap.size + 1 ≠ D := by have := HZ.out; omega
    have hS : sameN xs ys = true := sameN_of_get HE.out (fun j h1 h2 => hC ⟨j, h1⟩ (List.mem_finRange _) h2)
    have HS := Lib.hid hS; clear hS hC
    gi_wp2
    refine ⟨by simp, .inl ⟨_, _, rfl, run_takeDeferred (heap_setOther hK hDn.symm _), ?_⟩⟩
    refine ⟨_, results_cellB rfl Try.underlying4 _ _ rfl (out_cell (hI.set _) hDn _), by rw [HS.out], ?_⟩
    exact below_putO (hB.setCell (p := ⟨w.heap.size + 1, 0, none⟩) (by simp) _) (by have := HZ.out; omega) (Nat.le_refl _)
  case stop =>
    rintro D c pre W hD hp ⟨rfl, hI, hB, hC⟩ hK
    have hDn : w.heap.size + 1 ≠ D := by have := HZ.out; omega
    have HC := Lib.hid hC; clear hC
    gi_wp2
    refine ⟨by simp, .inl ⟨_, _, rfl, run_takeDeferred hK, ?_⟩⟩
    refine ⟨_, results_cellB rfl Try.underlying4 _ _ rfl (out_cell hI hDn _), by rw [HC.out], ?_⟩
    exact below_putO hB (by have := HZ.out; omega) (Nat.le_refl _)
end
end Go.Proofs.Ytckammgnmgkieaa

/-
  Contract of name.Under.
-/
namespace Go.Proofs.Ytckammgnmgkieaa
set_option maxRecDepth 20000
open Go.RowKit Go.Shelf

theorem underN_of_get {xs zs : Nm} {d : Nat} (h : xs.length = d + zs.length) (hs : ∀ j (h1 : d + j < xs.length) (h2 : j < zs.length), sameM xs[d + j] zs[j] = true) : underN xs zs = true := by
  unfold underN
  rw [decide_eq_true (by omega), Bool.true_and, show xs.length - zs.length = d by omega]
  refine sameN_of_get (by simp; omega) (fun j h1 h2 => ?_)
  rw [List.getElem_drop]
  exact hs j _ h2
theorem underN_not_get {xs zs : Nm} {d : Nat} (h : xs.length = d + zs.length) (j : Nat) (h1 : d + j < xs.length) (h2 : j < zs.length) (hs : sameM xs[d + j] zs[j] = false) : underN xs zs = false := by
  unfold underN
  rw [decide_eq_true (by omega), Bool.true_and, show xs.length - zs.length = d by omega]
  refine sameN_not_get j (by simp; omega) h2 ?_
  rw [List.getElem_drop]; exact hs
theorem underN_short {xs zs : Nm} (h : xs.length < zs.length) : underN xs zs = false := by
  unfold underN; rw [decide_eq_false (by omega), Bool.false_and]

section
attribute [local go_sem] Oper.semAt_some
set_option maxRecDepth 100000 in
set_option maxHeartbeats 2000000 in
theorem name_Under (v u : Value) (xs zs : Nm) (w : World) (hA : StrsAt w v xs) (hU : StrsAt w u zs) (hk : NmOK xs) (hk2 : NmOK zs) :
    Calls Try.prog 58 #[v, u] w fun e w' => e = .returned (.bool (underN xs zs)) ∧ Below w.heap.size w w' := by
  obtain ⟨a, c, rfl, _⟩ := id hA
  obtain ⟨a2, c2, rfl, _⟩ := id hU
  have hl1 := hk.1
  have hl2 := hk2.1
  refine (callsIn_wide (n := 5)).1 ?_
  refine callsIn_of_wp_marks Try.func58 rfl trivial ?_ rfl
  simp only [Try.ntmps58, List.size_toArray, List.length_cons, List.length_nil, Nat.reduceAdd, Nat.reduceSub, Array.replicate_succ, Array.replicate_zero, List.push_toArray, List.append_toArray, List.nil_append, List.cons_append]
  by_cases hlt : xs.length < zs.length
  · have h0 : underN xs zs = false := underN_short hlt
    have H0 := Lib.hid h0; clear h0
    have hlt' : (xs.length : Int) - (zs.length : Int) < 0 := by omega
    gi_wp2
    have hI : Boxed ((w.alloc (.cells #[.slice a xs.length c] 23)).alloc (.cells #[.bool false] 4)) (w.heap.size + 1) 4 (.bool false) := by
      have := Boxed.new (w.alloc (.cells #[.slice a xs.length c] 23)) 4 (.bool false)
      rwa [World.size_alloc] at this
    refine ⟨_, results_cellB rfl Try.underlying4 _ _ rfl (hI.alloc _).cell, by rw [H0.out], ?_⟩
    exact (((Below.refl _ w).alloc (Nat.le_refl _) _).alloc (by simp) _).alloc (by simp; omega) _
  obtain ⟨d, hd⟩ : ∃ d, xs.length = d + zs.length := ⟨xs.length - zs.length, by omega⟩
  have hsub : (xs.length : Int) - (zs.length : Int) = (d : Int) := by omega
  have HD := Lib.hid hd; clear hd
  have HS := Lib.hid hsub; clear hsub
  have hge : ¬ (xs.length : Int) - (zs.length : Int) < 0 := by omega
  clear hlt
  gi_wp2_with (refine ⟨trivial, ?_⟩; gi_at_call 50; refine (callsIn_wide.2 (name_upward _ _ _ _)).mono ?_; rintro e w' ⟨rfl, rfl⟩)
  rw [HS.out]
  obtain ⟨W0, hW0⟩ : ∃ W0, ((((w.alloc (.cells #[.slice a xs.length c] 23)).alloc (.cells #[.bool false] 4)).alloc (.cells #[.int .i64 d] 3)).alloc (.cells #[.slice a2 zs.length c2] 23)) = W0 := ⟨_, rfl⟩
  have bN : Boxed W0 w.heap.size 23 (.slice a xs.length c) := by rw [← hW0]; exact (((Boxed.new w _ _).alloc _).alloc _).alloc _
  have bI : Boxed W0 (w.heap.size + 1) 4 (.bool false) := by
    have := Boxed.new (w.alloc (.cells #[.slice a xs.length c] 23)) 4 (.bool false)
    rw [World.size_alloc] at this
    rw [← hW0]; exact (this.alloc _).alloc _
  have bD : Boxed W0 (w.heap.size + 1 + 1) 3 (.int .i64 d) := by
    have := Boxed.new ((w.alloc (.cells #[.slice a xs.length c] 23)).alloc (.cells #[.bool false] 4)) 3 (.int .i64 d)
    rw [World.size_alloc, World.size_alloc] at this
    rw [← hW0]; exact this.alloc _
  have bV : Boxed W0 (w.heap.size + 1 + 1 + 1) 23 (.slice a2 zs.length c2) := by
    have := Boxed.new (((w.alloc (.cells #[.slice a xs.length c] 23)).alloc (.cells #[.bool false] 4)).alloc (.cells #[.int .i64 d] 3)) 23 (.slice a2 zs.length c2)
    rw [World.size_alloc, World.size_alloc, World.size_alloc] at this
    rw [← hW0]; exact this
  have hsz : W0.heap.size = w.heap.size + 4 := by rw [← hW0]; simp
  have hB0 : Below w.heap.size w W0 := by rw [← hW0]; exact ((((Below.refl _ w).alloc (Nat.le_refl _) _).alloc (by simp) _).alloc (by simp; omega) _).alloc (by simp; omega) _
  have hrow := hU.row_lt
  rw [hW0]
  have HZ := Lib.hid hsz; clear hsz hW0
  refine wpIn_rangeFunc_ownG rfl (by omega) (gf := 70) (lb := #[.pointer (some ⟨w.heap.size + 1 + 1 + 1, 0, none⟩)]) rfl trivial (enters_of Try.func70 (by kernel_rfl) rfl)
    (upward_stops _ (by omega) (w.heap.size + 1 + 1 + 1) (.slice a2 zs.length c2) zs (by unfold maxLen; omega) W0 (by rw [HZ.out]; omega) bV.cell (hU.below hB0)) keepN_t (keepN_b (by rw [HZ.out]; omega) (fun g e => by have := hrow g e; rw [HZ.out]; omega)) (Below.refl _ _) (fun _ => rfl)
    (fun pre W => Boxed W w.heap.size 23 (.slice a xs.length c) ∧ Boxed W (w.heap.size + 1) 4 (.bool false) ∧ Boxed W (w.heap.size + 1 + 1) 3 (.int .i64 d) ∧ Below w.heap.size w W ∧ ∀ j ∈ pre, ∀ h : d + j.val < xs.length, sameM xs[d + j.val] zs[j] = true)
    (fun k _ W => k = .ret ∧ Boxed W (w.heap.size + 1) 4 (.bool false) ∧ Below w.heap.size w W ∧ underN xs zs = false)
    (OwnFrom.and (Own.from (boxed_own _ _ _) _) (OwnFrom.and (Own.from (boxed_own _ _ _) _) (OwnFrom.and (Own.from (boxed_own _ _ _) _) (OwnFrom.and (ownFrom_below (Nat.le_refl _) (by rw [HZ.out]; omega)) (ownFrom_pure _ _)))))
    (fun _ => OwnFrom.and (ownFrom_pure _ _) (OwnFrom.and (Own.from (boxed_own _ _ _) _) (OwnFrom.and (ownFrom_below (Nat.le_refl _) (by rw [HZ.out]; omega)) (ownFrom_pure _ _))))
    ⟨bN, bI, bD, hB0, by simp⟩
    (fun j => { tmps := #[.slice a xs.length c, .slice a2 zs.length c2, .pointer (some ⟨w.heap.size, 0, none⟩), undef, .pointer (some ⟨w.heap.size + 1, 0, none⟩), .pointer (some ⟨w.heap.size + 1 + 1, 0, none⟩), .int .i64 (j.val : Int), .string ⟨zs[j].toArray⟩, .slice a xs.length c, .int .i64 xs.length, .slice a2 zs.length c2, .int .i64 zs.length, .int .i64 d, .int .i64 d, .bool false, .slice a2 zs.length c2, .func (.func 70) #[] #[.pointer (some ⟨w.heap.size + 1 + 1 + 1, 0, none⟩)], .int .i64 (j.val : Int), .string ⟨zs[j].toArray⟩, undef, undef, undef, undef, undef, undef, undef, undef, undef], defers := [] }) ?assign ?body ?done ?stop
  case assign =>
    intro l x W K hK
    unfold idxV strV
    gi_wp2
    exact hK
  case body =>
    rintro l pre x W ⟨hN, hI, hD2, hB, hC⟩ hlt
    have cn := hN.cell
    have cd := hD2.cell
    have c0 := hI.cell; have f0 := hI.frozen
    have hzi : x.val < zs.length := x.isLt
    have hxi : d + x.val < xs.length := by have := HD.out; omega
    obtain ⟨g, off, rfl, hg, hcell⟩ := hA.cell hB (d + x.val) hxi
    have hz1 : zs[x].length ≤ 1048576 := hk2.get x.val x.isLt
    have hx1 : xs[d + x.val].length ≤ 1048576 := hk.get (d + x.val) hxi
    obtain ⟨sz, hsz0, hszz, hszv⟩ := str_of zs[x]
    obtain ⟨sx, hsx0, hsxz, hsxv⟩ := str_of xs[d + x.val]
    have hS := fun W => label_Same sx sz W (by unfold maxLen; omega) (by unfold maxLen; omega)
    rw [hsz0, hsx0] at hS
    rw [str_at hszv]
    rw [hsxv] at hcell
    generalize hq : sameM xs[d + x.val] zs[x] = q at *
    have HQ := Lib.hid hq
    clear hsz0 hszz hszv hsx0 hsxz hsxv hx1 hz1 hq
    cases q with
    | true =>
      gi_wp2_with (refine ⟨trivial, ?_⟩; gi_at_call 28; refine (CallsIn.inRound l (callsIn_wide.2 (hS _))).mono ?_; rintro e w' ⟨rfl, n, rfl⟩)
      refine ⟨(keepsOthers_drewN _ _).from _, KeepN.drewN _ _, hN, hI, hD2, below_drewQ hB _, ?_⟩
      intro j hj h
      rcases List.mem_append.1 hj with hj | hj
      · exact hC j hj h
      · obtain rfl := List.mem_singleton.1 hj; exact HQ.out
    | false =>
      have H0 : Hid (underN xs zs = false) := Lib.hid (underN_not_get HD.out x.val hxi hzi HQ.out)
      gi_wp2_with (refine ⟨trivial, ?_⟩; gi_at_call 28; refine (CallsIn.inRound l (callsIn_wide.2 (hS _))).mono ?_; rintro e w' ⟨rfl, n, rfl⟩)
      refine ⟨((keepsOthers_drewN _ _).trans (KeepsOthers.setCell _ _ _)).from _, rfl, ?_, ?_, H0.out⟩
      · exact Boxed.set (.bool false) (show Boxed (W.drewN n) (w.heap.size + 1) 4 (.bool false) from hI)
      · exact (below_drewQ hB _).setCell (p := ⟨w.heap.size + 1, 0, none⟩) (by simp) _
  case done =>
    rintro D ys W hD rfl ⟨hN, hI, hD2, hB, hC⟩ hK
    have c0 := hI.cell; have f0 := hI.frozen
    have hDn : w.heap.size + 1 ≠ D := by have := HZ.out; omega
    have hS : underN xs zs = true := underN_of_get HD.out (fun j h1 h2 => hC ⟨j, h2⟩ (by simp) h1)
    have HT := Lib.hid hS; clear hS hC
    gi_wp2
    refine ⟨by simp, .inl ⟨_, _, rfl, run_takeDeferred (heap_setOther hK hDn.symm _), ?_⟩⟩
    refine ⟨_, results_cellB rfl Try.underlying4 _ _ rfl (out_cell (hI.set _) hDn _), by rw [HT.out], ?_⟩
    exact below_putO (hB.setCell (p := ⟨w.heap.size + 1, 0, none⟩) (by simp) _) (by have := HZ.out; omega) (Nat.le_refl _)
  case stop =>
    rintro D c pre W hD hp ⟨rfl, hI, hB, hC⟩ hK
    have hDn : w.heap.size + 1 ≠ D := by have := HZ.out; omega
    have HC := Lib.hid hC; clear hC
    gi_wp2
    refine ⟨by simp, .inl ⟨_, _, rfl, run_takeDeferred hK, ?_⟩⟩
    refine ⟨_, results_cellB rfl Try.underlying4 _ _ rfl (out_cell hI hDn _), by rw [HC.out], ?_⟩
    exact below_putO hB (by have := HZ.out; omega) (Nat.le_refl _)
end
end Go.Proofs.Ytckammgnmgkieaa

/-
  A text that is parted, said by recursion: plain facts on lists of octets.
-/
namespace Go.Proofs.Ytckammgnmgkieaa
set_option maxRecDepth 20000
open Go.RowKit Go.Shelf

def splitR : List UInt8 → List UInt8 → List (List UInt8) → List (List UInt8) × Int
  | [], cur, done => (done ++ [cur], 0)
  | [c], cur, done => if c = 46 then (done ++ [cur] ++ [[]], 0) else if c = 92 then ([], 2) else (done ++ [cur ++ [c]], 0)
  | c :: x :: r, cur, done => if c = 46 then splitR (x :: r) [] (done ++ [cur]) else if c = 92 then splitR r (cur ++ [92, x]) done else splitR (x :: r) (cur ++ [c]) done
theorem splitR_dot (r cur : List UInt8) (done : List (List UInt8)) : splitR (46 :: r) cur done = splitR r [] (done ++ [cur]) := by
  cases r <;> simp [splitR]
theorem splitR_stroke (x : UInt8) (r cur : List UInt8) (done : List (List UInt8)) : splitR (92 :: x :: r) cur done = splitR r (cur ++ [92, x]) done := by
  simp [splitR]
theorem splitR_stroke_end (cur : List UInt8) (done : List (List UInt8)) : splitR [92] cur done = ([], 2) := by
  simp [splitR]
theorem splitR_other {c : UInt8} (h1 : c ≠ 46) (h2 : c ≠ 92) (r cur : List UInt8) (done : List (List UInt8)) : splitR (c :: r) cur done = splitR r (cur ++ [c]) done := by
  cases r <;> simp [splitR, h1, h2]

theorem spRun_at (l : List UInt8) : (spRun l).at' = l.length := (spRun_inv l).1
theorem piece_pre (pre rest : List UInt8) (a b : Nat) (hb : b ≤ pre.length) : piece (pre ++ rest) (a, b) = piece pre (a, b) := by
  unfold piece; simp only; rw [List.take_append_of_le_length hb]
theorem spRun_parts_le (l : List UInt8) : ∀ p ∈ (spRun l).parts, p.2 ≤ l.length := by
  suffices h : ∀ (l : List UInt8) (t : SpSt) (n : Nat), t.at' = n → (∀ p ∈ t.parts, p.2 ≤ n) → ∀ p ∈ (l.foldl spStep t).parts, p.2 ≤ n + l.length by
    have := h l ⟨0, 0, false, []⟩ 0 rfl (by simp)
    unfold spRun; simpa using this
  intro l
  induction l with
  | nil => intro t n h1 h2; simpa using h2
  | cons c l ih =>
    intro t n h1 h2
    have := ih (spStep t c) (n + 1) (by unfold spStep; split <;> (try split) <;> (try split) <;> simp [h1]) (by
      intro p hp
      unfold spStep at hp
      split at hp
      · have := h2 p hp; omega
      · split at hp
        · have := h2 p hp; omega
        · split at hp
          · simp only [List.mem_append, List.mem_singleton] at hp
            rcases hp with hp | rfl
            · have := h2 p hp; omega
            · simp; omega
          · have := h2 p hp; omega)
    simp only [List.foldl_cons, List.length_cons]
    intro p hp
    have := this p hp
    omega

theorem splitM_rest : ∀ (n : Nat) (rest pre : List UInt8), rest.length ≤ n → (spRun pre).taken = false →
    splitM (pre ++ rest) = splitR rest (pre.drop (spRun pre).start) ((spRun pre).parts.map (piece pre)) := by
  intro n
  induction n with
  | zero =>
    intro rest pre hn ht
    obtain rfl : rest = [] := List.eq_nil_of_length_eq_zero (by omega)
    rw [List.append_nil]
    unfold splitM splitR
    rw [if_neg (by simp [ht])]
  | succ n ih =>
    intro rest pre hn ht
    have hst := (spRun_inv pre).2.1
    have hparts : ∀ (x : UInt8) (q : List UInt8), (spRun pre).parts.map (piece (pre ++ x :: q)) = (spRun pre).parts.map (piece pre) := by
      intro x q
      apply List.map_congr_left
      intro p hp
      exact piece_pre pre _ p.1 p.2 (spRun_parts_le pre p hp)
    match rest with
    | [] =>
      rw [List.append_nil]
      unfold splitM splitR
      rw [if_neg (by simp [ht])]
    | c :: r =>
      by_cases h1 : c = 46
      · subst h1
        have e : spRun (pre ++ [46]) = ⟨(spRun pre).at' + 1, (spRun pre).at' + 1, false, (spRun pre).parts ++ [((spRun pre).start, (spRun pre).at')]⟩ := by
          rw [spRun_snoc]; exact spStep_dot ht (by decide)
        have := ih r (pre ++ [46]) (by simp at hn; omega) (by rw [e])
        rw [List.append_assoc] at this
        rw [show pre ++ 46 :: r = pre ++ ([46] ++ r) from rfl, this, splitR_dot, e]
        simp only [List.map_append, List.map_cons, List.map_nil, spRun_at]
        rw [hparts 46 [], List.drop_eq_nil_of_le (by simp)]
        congr 2
        unfold piece
        simp
      · by_cases h2 : c = 92
        · subst h2
          match r with
          | [] =>
            have e : (spRun (pre ++ [92])).taken = true := by rw [spRun_snoc, spStep_stroke ht (by decide)]
            rw [splitR_stroke_end]
            unfold splitM
            rw [if_pos e]
          | x :: r =>
            have e1 : spRun (pre ++ [92]) = ⟨(spRun pre).at' + 1, (spRun pre).start, true, (spRun pre).parts⟩ := by rw [spRun_snoc]; exact spStep_stroke ht (by decide)
            have e : spRun (pre ++ [92] ++ [x]) = ⟨(spRun pre).at' + 1 + 1, (spRun pre).start, false, (spRun pre).parts⟩ := by rw [spRun_snoc, spStep_taken (by rw [e1]), e1]
            have := ih r (pre ++ [92] ++ [x]) (by simp at hn; omega) (by rw [e])
            rw [show pre ++ 92 :: x :: r = pre ++ [92] ++ [x] ++ r by simp, this, splitR_stroke, e]
            simp only
            rw [show pre ++ [92] ++ [x] = pre ++ 92 :: [x] by simp, hparts 92 [x], List.drop_append_of_le_length hst]
        · have e : spRun (pre ++ [c]) = ⟨(spRun pre).at' + 1, (spRun pre).start, false, (spRun pre).parts⟩ := by
            rw [spRun_snoc]; unfold spStep; simp [ht, h1, h2]
          have := ih r (pre ++ [c]) (by simp at hn; omega) (by rw [e])
          rw [show pre ++ c :: r = pre ++ [c] ++ r by simp, this, splitR_other h1 h2, e]
          simp only
          rw [hparts c [], List.drop_append_of_le_length hst]

theorem splitM_eq (s : List UInt8) : splitM s = splitR s [] [] := by
  have := splitM_rest s.length s [] (Nat.le_refl _) rfl
  simpa [spRun] using this

theorem splitR_octet (c : UInt8) (r cur : List UInt8) (done : List (List UInt8)) : splitR (octetW c ++ r) cur done = splitR r (cur ++ octetW c) done := by
  have hc := c.toNat_lt
  by_cases hsp : specialU c = true
  · rw [octetW_special hsp]; exact splitR_stroke c r cur done
  · have hsp0 : specialU c = false := by simpa using hsp
    have s1 : ¬ (c.toNat = 46 ∨ c.toNat = 92 ∨ c.toNat = 34 ∨ c.toNat = 40 ∨ c.toNat = 41 ∨ c.toNat = 59 ∨ c.toNat = 64 ∨ c.toNat = 36) := of_decide_eq_false hsp0
    by_cases hpl : 33 ≤ (c.toNat : Int) ∧ (c.toNat : Int) ≤ 126
    · rw [octetW_plain hsp0 hpl.1 hpl.2]
      have e1 : c ≠ 46 := by intro e; subst e; simp at s1
      have e2 : c ≠ 92 := by intro e; subst e; simp at s1
      exact splitR_other e1 e2 r cur done
    · rw [octetW_esc hsp0 (by omega)]
      have e2 : (48 + c / 10 % 10 : UInt8).toNat = 48 + c.toNat / 10 % 10 := by rw [UInt8.toNat_add, UInt8.toNat_mod, UInt8.toNat_div]; simp only [UInt8.reduceToNat]; omega
      have e3 : (48 + c % 10 : UInt8).toNat = 48 + c.toNat % 10 := by rw [UInt8.toNat_add, UInt8.toNat_mod]; simp only [UInt8.reduceToNat]; omega
      have n1 : ∀ x : UInt8, 48 ≤ x.toNat → x.toNat ≤ 57 → x ≠ 46 ∧ x ≠ 92 := by
        intro x h1 h2; constructor <;> (intro e; subst e; simp at h1 h2)
      have d2 := n1 (48 + c / 10 % 10) (by omega) (by omega)
      have d3 := n1 (48 + c % 10) (by omega) (by omega)
      unfold octetEsc
      simp only [List.cons_append, List.nil_append]
      rw [splitR_stroke, splitR_other d2.1 d2.2, splitR_other d3.1 d3.2]
      simp
theorem splitR_text : ∀ (l r cur : List UInt8) (done : List (List UInt8)), splitR (textL l ++ r) cur done = splitR r (cur ++ textL l) done
  | [], r, cur, done => by simp [textL]
  | c :: l, r, cur, done => by
    rw [textL_cons, List.append_assoc, splitR_octet, splitR_text l]; simp

/-- Labels in words, dots between. -/
def joinL : List (List UInt8) → List UInt8
  | [] => []
  | x :: xs => textL x ++ xs.flatMap fun y => 46 :: textL y
theorem joinL_snoc {xs : List (List UInt8)} (h : xs ≠ []) (y : List UInt8) : joinL (xs ++ [y]) = joinL xs ++ [46] ++ textL y := by
  cases xs with
  | nil => exact absurd rfl h
  | cons x xs => simp [joinL]
theorem splitR_joined : ∀ (xs : List (List UInt8)) (cur : List UInt8) (done : List (List UInt8)), splitR (xs.flatMap fun y => 46 :: textL y) cur done = (done ++ [cur] ++ xs.map textL, 0)
  | [], cur, done => by simp [splitR]
  | x :: xs, cur, done => by
    rw [List.flatMap_cons, List.cons_append, splitR_dot, splitR_text, splitR_joined xs]; simp
theorem split_join {xs : List (List UInt8)} (h : xs ≠ []) : splitM (joinL xs) = (xs.map textL, 0) := by
  cases xs with
  | nil => exact absurd rfl h
  | cons x xs => rw [splitM_eq]; unfold joinL; rw [splitR_text, splitR_joined]; simp
theorem joinL_le : ∀ xs : List (List UInt8), (∀ x ∈ xs, x.length ≤ 63) → (joinL xs).length ≤ 253 * xs.length
  | [], _ => by simp [joinL]
  | x :: xs, h => by
    have h1 := textL_le x
    have h2 := h x (by simp)
    have h3 : ∀ ys : List (List UInt8), (∀ y ∈ ys, y.length ≤ 63) → (ys.flatMap fun y => 46 :: textL y).length ≤ 253 * ys.length := by
      intro ys
      induction ys with
      | nil => simp
      | cons y ys ih =>
        intro hy
        have a1 := textL_le y
        have a2 := hy y (by simp)
        have a3 := ih (fun z hz => hy z (by simp [hz]))
        simp only [List.flatMap_cons, List.length_append, List.length_cons] at a3 ⊢
        omega
    have h4 := h3 xs (fun z hz => h z (by simp [hz]))
    simp only [joinL, List.length_append, List.length_cons] at h4 ⊢
    omega

end Go.Proofs.Ytckammgnmgkieaa

/-
  Inside a fence: a region that draws its order, whose first n operations only read and whose others wait for all of them and for one another (a yield at its end, ..): one walk of the text's order serves. The kit's StillTail, over QuietThIn's laws.
-/
namespace Go.Proofs.Ytckammgnmgkieaa
set_option maxRecDepth 20000
open Go.RowKit Go.Shelf

section
variable {F : Fence} {d : Nat} {P : Program} {ops : Array Oper} {md : Region.Mode} {C : World → Prop}

def wpAnyLIn (F : Fence) (d : Nat) (P : Program) (md : Region.Mode) (ops : Array Oper) (C : World → Prop) (n : Nat) (L : Array Bool → Act → Prop) : Nat → Array Bool → Act → Prop
  | 0, listed, a => L listed a
  | f + 1, listed, a =>
    Region.ready md ops listed ≠ [] ∧ ∀ i ∈ Region.ready md ops listed, i < n ∧ qOpIn F d P ops C i (wpAnyLIn F d P md ops C n L f (listed.setIfInBounds i true)) a

theorem wpAnyIn_of_head {n g : Nat} {L : Array Bool → Act → Prop} {Q' : Exit → Act → World → Prop} (hro : F.round = none) (hL : ∀ listed a w, C w → L listed a → wpAnyIn F d P md ops Q' g listed a w) :
    ∀ (f : Nat) (listed : Array Bool) (a : Act) (w : World), C w → wpAnyLIn F d P md ops C n L f listed a → wpAnyIn F d P md ops Q' (f + g) listed a w
  | 0, listed, a, w, hw, h => by rw [Nat.zero_add]; exact hL _ _ _ hw h
  | f + 1, listed, a, w, hw, h => by
    rw [show f + 1 + g = (f + g) + 1 by omega]
    exact ⟨fun h0 => absurd h0 h.1, fun i hi => wpOpIn_of_qOpIn hro hw (fun a' w' hw' h' => wpAnyIn_of_head hro hL f _ a' w' hw' h') (h.2 i hi).2⟩

theorem wpAnyLIn_first {n i : Nat} {oi : Oper} {v : Value} {L : Array Bool → Act → Prop} (hi : ops[i]? = some oi) (hsel : ∀ (j : Nat) (o : Oper) cs b, ops[j]? = some o → o.op ≠ .select cs b)
    (hs : Region.sinkB md ops n = true) (hc : Region.chainB md ops n = true) (hn : n < ops.size) (hin : i < n)
    (hdone : ∀ listed a, L listed a → ∀ j ∈ Region.ready md ops listed, n ≤ j) :
    ∀ (f : Nat) (listed : Array Bool) (a : Act), HeadInv md ops n listed →
      (∀ j oj, ops[j]? = some oj → j ≠ i → listed.getD j true = false → (∀ e ∈ oj.after, Region.binds md e = true → e.on ≠ i) → oi.apart ops oj = true) →
      i ∈ Region.ready md ops listed → YieldsQuiet F d P ops C oi v a →
      wpAnyLIn F d P md ops C n L f (listed.setIfInBounds i true) (a.put oi.dst v) → wpAnyLIn F d P md ops C n L (f + 1) listed a := by
  intro f
  induction f with
  | zero =>
    intro listed a inv _ hr hy H
    have hun := (mem_ready.1 hr).1
    refine ⟨fun h => (by rw [h] at hr; cases hr), fun j hj => ?_⟩
    have hjn : j < n := by
      rcases Nat.lt_or_ge j n with h | h
      · exact h
      · exact absurd hj (tail_waits hs hc hn inv _ i rfl hin hun j h)
    refine ⟨hjn, ?_⟩
    by_cases hji : j = i
    · subst hji; exact hy.qOpIn hi H
    · have := hdone _ _ H j (ready_mono hj hji)
      omega
  | succ f ih =>
    intro listed a inv hfree hr hy H
    have hun := (mem_ready.1 hr).1
    refine ⟨fun h => (by rw [h] at hr; cases hr), fun j hj => ?_⟩
    have hjn : j < n := by
      rcases Nat.lt_or_ge j n with h | h
      · exact h
      · exact absurd hj (tail_waits hs hc hn inv _ i rfl hin hun j h)
    refine ⟨hjn, ?_⟩
    by_cases hji : j = i
    · subst hji; exact hy.qOpIn hi H
    · have h1 := (H.2 j (ready_mono hj hji)).2
      obtain ⟨hjun, oj, hoj, hall⟩ := mem_ready.1 hj
      have hnot : ∀ e ∈ oj.after, Region.binds md e = true → e.on ≠ i := fun e he hb heq => by
        have h1 := hall e he hb
        rw [heq, getD_both hun] at h1
        cases h1
      have h2 := qOpIn_put hoj (hfree j oj hoj hji hjun hnot) (fun cs b => hsel i oi cs b hi) (fun cs b => hsel j oj cs b hoj) hy h1
      have hfree' : ∀ k ok, ops[k]? = some ok → k ≠ i → (listed.setIfInBounds j true).getD k true = false →
          (∀ e ∈ ok.after, Region.binds md e = true → e.on ≠ i) → oi.apart ops ok = true := fun k ok hk hki hun hno => by
        refine hfree k ok hk hki ?_ hno
        by_cases hjk : j = k
        · subst hjk; exact hjun
        · rw [getD_set_ne true hjk] at hun; exact hun
      refine qOpIn_mono (fun a' h3 => ih (listed.setIfInBounds j true) a' (inv.set hj hjn) hfree' (ready_mono hr (Ne.symm hji)) h3.1 ?_) h2
      rw [Array.setIfInBounds_comm _ _ hji]
      exact h3.2

theorem wpAnyIn_of_seq {Q' : Exit → Act → World → Prop} : ∀ (l : List Oper) (k : Nat) (listed : Array Bool) (a : Act) (w : World), (∀ j, l[j]? = ops[k + j]?) →
    Region.seqB md ops l.length k listed = true → wpListIn F d P ops Q' l a w → wpAnyIn F d P md ops Q' l.length listed a w
  | [], _, _, _, _, _, hB, h => ⟨by simpa [Region.seqB] using hB, h⟩
  | o :: l, k, listed, a, w, hl, hB, h => by
    have h0 : ops[k]? = some o := by simpa using (hl 0).symm
    simp only [List.length_cons, Region.seqB, Bool.and_eq_true, decide_eq_true_eq] at hB
    refine ⟨fun h1 => (by rw [hB.1] at h1; cases h1), fun i hi => ?_⟩
    rw [hB.1] at hi
    have hik : i = k := by simpa using hi
    subst hik
    have hw : wpOpIn F d P ops Q' i (wpListIn F d P ops Q' l) a w := by unfold wpOpIn; simp only [h0]; exact h
    exact wpOpIn_mono (fun a' w' h' => wpAnyIn_of_seq l (i + 1) _ a' w' (fun j => by have := hl (j + 1); simpa [Nat.add_assoc, Nat.add_comm 1 j] using this) hB.2 h') hw

theorem wpAnyLIn_lex {n g : Nat} {Lq : Act → Prop} (hsel : Region.noSelect ops = true) (hs : Region.sinkB md ops n = true) (hc : Region.chainB md ops n = true) (hn : n < ops.size) :
    ∀ (l : List Oper) (k : Nat) (listed : Array Bool) (a : Act), (∀ j, j < l.length → l[j]? = ops[k + j]?) → k + l.length = n → HeadInv md ops n listed →
    Region.lexHead md ops g l.length k listed = true → wpQuietIn F d P ops C Lq l a →
    wpAnyLIn F d P md ops C n (fun listed' a' => Region.seqB md ops g n listed' = true ∧ Lq a') l.length listed a
  | [], k, listed, a, _, hk, _, hB, h => by
    have : k = n := by simpa using hk
    subst this
    exact ⟨by simpa [Region.lexHead] using hB, h⟩
  | o :: l, k, listed, a, hl, hk, inv, hB, h => by
    have h0 : ops[k]? = some o := by simpa using (hl 0 (by simp)).symm
    simp only [List.length_cons, Region.lexHead, Bool.and_eq_true] at hB
    obtain ⟨⟨hr, hf⟩, hB'⟩ := hB
    have hkn : k < n := by simp only [List.length_cons] at hk; omega
    have hr' : k ∈ Region.ready md ops listed := by simpa using hr
    have hst : qOpIn F d P ops C k (wpQuietIn F d P ops C Lq l) a := by unfold qOpIn; simp only [h0]; exact h
    obtain ⟨v, hy, hK⟩ := yieldsQuiet_of_qOpIn h0 hst
    exact wpAnyLIn_first h0 (Region.noSelect_spec hsel) hs hc hn hkn (fun listed' a' hL => seqB_ready hL.1) l.length listed a inv (Region.free_spec h0 hf) hr' hy
      (wpAnyLIn_lex hsel hs hc hn l (k + 1) _ _ (fun j hj => by have := hl (j + 1) (by simp; omega); simpa [Nat.add_assoc, Nat.add_comm 1 j] using this) (by simp only [List.length_cons] at hk; omega) (inv.set hr' hkn) hB' hK)

theorem wpIn_region_tail {id : Nat} {Q : Exit → Act → World → Prop} {a : Act} {w : World} {l : List Oper} (n : Nat) (hro : F.round = none) (hm : P.follows .mixedOrders = true) (hB : Region.lexTailB .any l.toArray n = true)
    (h : wpQuietIn F d P l.toArray (fun w' => ∃ n, w' = w.drewN n) (fun a' => ∀ w', (∃ n, w' = w.drewN n) → wpListIn F d P l.toArray Q (l.drop n) a' w') (l.take n) a) : (Code.region id l.toArray true).wpIn F d P Q a w := by
  simp only [Region.lexTailB, Bool.and_eq_true, decide_eq_true_eq] at hB
  obtain ⟨⟨⟨⟨hsel, hn⟩, hs⟩, hc⟩, hlex⟩ := hB
  have hn' : n < l.length := by simpa using hn
  have htl : (l.take n).length = n := by simp; omega
  have hdl : (l.drop n).length = l.toArray.size - n := by simp
  have inv0 : HeadInv .any l.toArray n (Array.replicate l.toArray.size false) :=
    ⟨by simp, fun j oj _ hl => (by rw [getD_replicate_false] at hl; cases hl), fun t _ ht => getD_in (by simpa using ht) (getD_replicate_false _ _)⟩
  have H := wpAnyLIn_lex (md := .any) (g := l.toArray.size - n) hsel hs hc hn (l.take n) 0 _ a (fun j hj => by
    have hj' : j < n := by rw [htl] at hj; exact hj
    simp [hj']) (by simpa using htl) inv0 (by rw [htl]; exact hlex) h
  refine wpIn_region_any hm ?_
  have := wpAnyIn_of_head (Q' := Q) (g := l.toArray.size - n) hro (fun listed a' w' hw' hL => by
    have := wpAnyIn_of_seq (md := .any) (Q' := Q) (l.drop n) n listed a' w' (fun j => by simp [List.getElem?_drop]) (by rw [hdl]; exact hL.1) (hL.2 w' hw')
    rwa [hdl] at this) _ _ _ ({ w with drawn := w.drawn + 1 }) ⟨1, rfl⟩ H
  rw [htl, show n + (l.toArray.size - n) = l.toArray.size by omega] at this
  exact this

end
end Go.Proofs.Ytckammgnmgkieaa

/-
  The document's ParseType.
-/
namespace Go.Proofs.Ytckammgnmgkieaa
set_option maxRecDepth 20000
open Go.RowKit Go.Shelf

theorem take_type (s : List UInt8) : ((foldL s).take 4 = [116, 121, 112, 101]) ↔ ((greatL s).take 4 = [84, 89, 80, 69]) := by
  constructor
  · intro h
    have := congrArg greatL h
    rw [show greatL [116, 121, 112, 101] = [84, 89, 80, 69] by decide] at this
    rw [← this, ← greatL_fold s]; simp [greatL, List.map_take]
  · intro h
    have := congrArg foldL h
    rw [show foldL [84, 89, 80, 69] = [116, 121, 112, 101] by decide] at this
    rw [← this, ← foldL_great s]; simp [foldL, List.map_take]
theorem numM_er (l : List UInt8) (most : Nat) : (numM l most).2 = 0 ∨ (numM l most).2 = 2 ∨ (numM l most).2 = 7 := by
  unfold numM; split
  · split <;> simp
  · simp
/-- Behind the names: a number. -/
def endType (l : List UInt8) : Int × Int := if (numM l 65535).2 = 2 then (0, 6) else if (numM l 65535).2 ≠ 0 ∨ (numM l 65535).1 = 0 then (0, 7) else ((numM l 65535).1, 0)
theorem parseType_none {s : List UInt8} (h : rowOfS (greatL s) = none) : parseTypeM s = if (greatL s).take 4 = [84, 89, 80, 69] then endType (s.drop 4) else (0, 6) := by unfold parseTypeM endType; rw [h]
theorem parseType_some {s : List UInt8} {j : Nat} (h : rowOfS (greatL s) = some j) : parseTypeM s = (typeT j, 0) := by unfold parseTypeM; rw [h]
def ParseTPost (l : List UInt8) (w : World) (e : Ending) (w' : World) : Prop := e = .returned (.tuple #[.int .i64 (parseTypeM l).1, .int .i64 (parseTypeM l).2]) ∧ Below w.heap.size w w'
theorem ptype_fin {l : List UInt8} {w w' : World} {e : Ending} (v er : Int) (h : parseTypeM l = (v, er)) (he : e = .returned (.tuple #[.int .i64 v, .int .i64 er])) (hb : Below w.heap.size w w') : ParseTPost l w e w' := by
  unfold ParseTPost; rw [h]; exact ⟨he, hb⟩
theorem typeName_at (j : Nat) (hj : j < 9) : typeNameM (typeT j) = typeS j := by unfold typeNameM; rw [rowOfT_typeT j hj]

end Go.Proofs.Ytckammgnmgkieaa

