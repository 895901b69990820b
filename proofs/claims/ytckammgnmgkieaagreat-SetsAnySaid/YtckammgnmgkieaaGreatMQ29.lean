/-
  What rec.Canon's loop keeps; the runs' row; an append of one record inside a fence.
-/
import Derived.Test.YtckammgnmgkieaaGreatMQ26
import Derived.Test.YtckammgnmgkieaaGreatMQ43
import Derived.RangeFuncKeeps
import Derived.RangeFuncNested
import Derived.RangeFuncWrites
import Derived.Test.YtckammgnmgkieaaGreatMQ39
namespace Go.Proofs.YtckammgnmgkieaaGreat
set_option maxRecDepth 20000
open Go.RowKit Go.Shelf
set_option maxRecDepth 20000
set_option linter.unusedVariables false
set_option linter.unusedSimpArgs false

theorem wplIn_append_c {S T : TypeId} {k bytes : Nat} {F : Fence} {n : Nat} {ops : Array Oper} {rest : List Oper} {o : Oper} {a : Act} {Q : Exit → Act → World → Prop} (W : World) (hgd : o.guard = none) (s x : Operand) (hE : ElemK k T S bytes) (hk0 : 0 < k)
    (ho : o.op = .call { callee := .builtin .append, args := #[s, x], argTypes := #[S, S] })
    (base : Nat) (v : Value) (xs : List (List Value)) (hs : a.eval s = v) (hown : OwnC k T W base v xs)
    (cs : List Value) (hcl : cs.length = k) (hc1 : ∀ u ∈ cs, u.oneCell' = true) (c : Nat) (hx : a.eval x = .slice (some ⟨W.heap.size, 0, none⟩) 1 c)
    (hbase : base ≤ W.heap.size) (hk : xs.length + 1 ≤ maxLen) (hk2 : (xs.length + 1) * bytes ≤ 140737488355328)
    (h : ∀ v' w', OwnC k T w' base v' (xs ++ [cs]) → W.grownBy w' v.ownBlock → wpListIn F n Tryz.prog ops Q rest (a.put o.dst v') w') :
    wpListIn F n Tryz.prog ops Q (o :: rest) a (W.alloc (.cells cs.toArray T)) := by
  obtain ⟨ht, i, z, hi, hz, hz1, hz2, hzc⟩ := hE
  refine wpListIn_append_own _ hgd s x S ho base T i z k bytes ht hi hz hz1 hz2 hzc hk0 v xs.length (xs.flatMap fun cs => cs) hs (hown.alloc _) ⟨W.heap.size, 0, none⟩ 1 c cs hx (by omega) (cells_new W _ _) hc1 hk hk2 (by simp; omega) ?_
  intro v' w' h1 h2 _
  refine h v' w' ?_ (grownBy_of_alloc h2)
  unfold OwnC OwnK
  rw [List.length_append, List.flatMap_append]
  have e : [cs].flatMap (fun cs => cs) = cs := by simp
  rw [e]
  exact h1

set_option maxHeartbeats 400000 in
theorem rec_runs (a : Option Addr) (n c : Nat) (w : World) :
    Calls Tryz.prog 112 #[.slice a n c, .func (.func 115) #[] #[]] w fun e w' => e = .returned (.func (.func 149) #[] #[.pointer (some ⟨w.heap.size, 0, none⟩), .pointer (some ⟨w.heap.size + 1, 0, none⟩)]) ∧ w' = (w.alloc (.cells #[.slice a n c] 22)).alloc (.cells #[.func (.func 115) #[] #[]] 172) := by
  go_enter Tryz.func112, Tryz.ntmps112
  go_wp2
  go_ret
  exact ⟨rfl, rfl⟩

structure KpX (n0 B : Nat) (W W' : World) : Prop where
  os : W'.os = W.os
  tape : W'.tape = W.tape
  output : W'.output = W.output
  size : W.heap.size ≤ W'.heap.size
  block : ∀ k, k < n0 → k ≠ B → W'.heap[k]? = W.heap[k]?
theorem KpX.refl (n0 B : Nat) (W : World) : KpX n0 B W W := ⟨rfl, rfl, rfl, Nat.le_refl _, fun _ _ _ => rfl⟩
theorem KpX.trans {n0 B : Nat} {W W' W'' : World} (h : KpX n0 B W W') (k : KpX n0 B W' W'') : KpX n0 B W W'' :=
  ⟨k.os.trans h.os, k.tape.trans h.tape, k.output.trans h.output, Nat.le_trans h.size k.size, fun i a b => (k.block i a b).trans (h.block i a b)⟩
theorem KpX.grown {n0 B : Nat} {W W' : World} {row : Option Nat} (hn : n0 ≤ W.heap.size) (hg : W.grownBy W' row) (hr : ∀ r, row = some r → n0 ≤ r ∨ r = B) : KpX n0 B W W' :=
  ⟨hg.os, hg.tape, hg.output, hg.size, fun i a b => hg.block i (by omega) (fun e => by rcases hr i e.symm with h | h <;> omega)⟩
theorem grown_of_below {W W' : World} (hb : Below W.heap.size W W') : W.grownBy W' none := ⟨hb.os, hb.tape, hb.output, hb.size, fun k hk _ => hb.block k hk⟩
theorem KpX.of_below {n0 B : Nat} {W W' : World} (hn : n0 ≤ W.heap.size) (hb : Below W.heap.size W W') : KpX n0 B W W' := KpX.grown hn (grown_of_below hb) (fun r e => by cases e)
theorem KpX.below {n0 B m : Nat} {W W' : World} (h : KpX n0 B W W') (h1 : m ≤ B) (h2 : m ≤ n0) : Below m W W' := ⟨h.os, h.tape, h.output, h.size, fun k hk => h.block k (by omega) (by omega)⟩

theorem OwnG.keptO {α : Type} {T : TypeId} {enc : α → Value} {W W' : World} {row : Option Nat} {base : Nat} {v : Value} {xs : List α} (h : OwnG T enc W base v xs) (hg : W.grownBy W' row) (hr : ∀ r, row = some r → ∃ o : Obj, W.heap[r]? = some o ∧ o.isCells = false) : OwnG T enc W' base v xs := by
  cases row with
  | none => exact h.kept hg (by cases v.ownBlock <;> simp)
  | some r =>
    obtain ⟨o, h1, h2⟩ := hr r rfl
    exact h.kept hg (.inr fun e => h.ne_of h1 h2 e.symm)
theorem FrAt.keptO {W W' : World} {row : Option Nat} {base : Nat} {cs : List Value} {r : Rc} (h : FrAt W base cs r) (hg : W.grownBy W' row) (hr : ∀ r, row = some r → ∃ o : Obj, W.heap[r]? = some o ∧ o.isCells = false) : FrAt W' base cs r := by
  obtain ⟨vo, vn, vu, vt, vr, e, h1, ⟨⟨vs, k1, k2, k3⟩, i1, i2, i3⟩⟩ := h
  exact ⟨vo, vn, vu, vt, vr, e, h1.keptO hg hr, ⟨⟨vs, k1.keptO hg hr, k2, fun i a b => (k3 i a b).keptO hg hr⟩, i1.keptO hg hr, i2.keptO hg hr, i3.keptO hg hr⟩⟩
theorem OwnC.blk {k : Nat} {T : TypeId} {W : World} {base : Nat} {v : Value} {xss : List (List Value)} (h : OwnC k T W base v xss) : ∀ b, v.ownBlock = some b → ∃ cs, W.heap[b]? = some (.cells cs T) := by
  intro b e
  rcases h.2 with ⟨rfl, _⟩ | ⟨g, cap, cur, rfl, _, hg, _⟩
  · cases e
  · simp only [Value.ownBlock] at e
    cases e
    exact ⟨_, hg⟩
theorem OwnC.keptO {k : Nat} {T : TypeId} {W W' : World} {row : Option Nat} {base : Nat} {v : Value} {xss : List (List Value)} (h : OwnC k T W base v xss) (hg : W.grownBy W' row) (hr : ∀ r, row = some r → ∃ o : Obj, W.heap[r]? = some o ∧ o.isCells = false) : OwnC k T W' base v xss := by
  refine OwnK.kept h hg ?_
  cases row with
  | none => cases v.ownBlock <;> simp
  | some r =>
    obtain ⟨o, h1, h2⟩ := hr r rfl
    right
    intro e
    obtain ⟨cs, h3⟩ := h.blk r e
    rw [h1] at h3; cases h3; cases h2

def OutAt (n0 B : Nat) (rs : List Rc) (xs : List (Nat × Nat)) (W : World) : Prop :=
  ∃ v css, Boxed W B 22 v ∧ OwnC 7 103 W n0 v css ∧ css.length = xs.length ∧ ∀ j (h1 : j < css.length) (h2 : j < xs.length), FrAt W n0 css[j] (runR rs xs[j])
def CanI (n0 B : Nat) (W0 : World) (rs : List Rc) {n : Nat} (pre : List (Seg n)) (W : World) : Prop := KpX n0 B W0 W ∧ OutAt n0 B rs (pre.map (·.1)) W
theorem OutAt.keptO {n0 B : Nat} {rs : List Rc} {xs : List (Nat × Nat)} {W W' : World} {row : Option Nat} (hB : B < n0) (h : OutAt n0 B rs xs W) (hg : W.grownBy W' row) (hr : ∀ r, row = some r → n0 ≤ r ∧ ∃ o : Obj, W.heap[r]? = some o ∧ o.isCells = false) : OutAt n0 B rs xs W' := by
  obtain ⟨v, css, h1, h2, h3, h4⟩ := h
  exact ⟨v, css, h1.kept hg (fun e => by have := (hr B e.symm).1; omega), h2.keptO hg (fun r e => (hr r e).2), h3, fun j a b => (h4 j a b).keptO hg (fun r e => (hr r e).2)⟩
theorem OutAt.below {n0 B : Nat} {rs : List Rc} {xs : List (Nat × Nat)} {W W' : World} (hB : B < n0) (h : OutAt n0 B rs xs W) (hb : Below W.heap.size W W') : OutAt n0 B rs xs W' := h.keptO hB (grown_of_below hb) (fun r e => by cases e)
theorem canI_own {n0 B : Nat} {W0 : World} {rs : List Rc} {n : Nat} (hB : B < n0) (hn : n0 ≤ W0.heap.size) : OwnFrom n0 (CanI (n := n) n0 B W0 rs) := by
  rintro pre W W' row ⟨h1, h2⟩ hg hr
  exact ⟨h1.trans (KpX.grown (Nat.le_trans hn h1.size) hg (fun r e => .inl (hr r e).1)), h2.keptO hB hg hr⟩
theorem OutAt.snoc {n0 B : Nat} {rs : List Rc} {xs : List (Nat × Nat)} {x : Nat × Nat} {W W' : World} {v v' : Value} {css : List (List Value)} {cs : List Value} (hB : Boxed W B 22 v) (ho : OwnC 7 103 W n0 v css) (hl : css.length = xs.length) (hf : ∀ j (h1 : j < css.length) (h2 : j < xs.length), FrAt W n0 css[j] (runR rs xs[j]))
    (hc : FrAt W n0 cs (runR rs x)) (ho' : OwnC 7 103 W' n0 v' (css ++ [cs])) (hg : W.grownBy W' v.ownBlock) : OutAt n0 B rs (xs ++ [x]) (W'.setCell ⟨B, 0, none⟩ v') := by
  have hne : some B ≠ v.ownBlock := ho.ne_block hB (by decide)
  have hB' : Boxed W' B 22 v := hB.kept hg hne
  refine ⟨v', css ++ [cs], hB'.set v', OwnK.keptB ho' hB' (by decide) 0 v', by simp [hl], fun j a b => ?_⟩
  have hk : ∀ {cs : List Value} {r : Rc}, FrAt W n0 cs r → FrAt (W'.setCell ⟨B, 0, none⟩ v') n0 cs r := by
    intro cs r h
    have h' := h.grown ho hg
    obtain ⟨vo, vn, vu, vt, vr, e, h1, ⟨⟨vs, k1, k2, k3⟩, i1, i2, i3⟩⟩ := h'
    exact ⟨vo, vn, vu, vt, vr, e, h1.keptB hB' (by decide) 0 v', ⟨⟨vs, k1.keptB hB' (by decide) 0 v', k2, fun i a b => (k3 i a b).keptB hB' (by decide) 0 v'⟩, i1.keptB hB' (by decide) 0 v', i2.keptB hB' (by decide) 0 v', i3.keptB hB' (by decide) 0 v'⟩⟩
  by_cases hj : j < css.length
  · rw [List.getElem_append_left hj, List.getElem_append_left (by omega)]
    exact hk (hf j hj (by omega))
  · obtain rfl : j = css.length := by simp at a; omega
    have e1 : (css ++ [cs])[css.length]'a = cs := by simp
    have e2 : (xs ++ [x])[css.length]'b = x := by simp [hl]
    rw [e1, e2]
    exact hk hc
theorem SlK.cut {W : World} {g off n c : Nat} {css : List (List Value)} (hk : ∀ cs ∈ css, cs.length = 7) (hn : css.length = n) (hnc : n ≤ c) (hg : g < W.heap.size)
    (hc : ∀ j u, css.flatten[j]? = some u → W.cell? ⟨g, off + j, none⟩ = some u) (s e : Nat) (h1 : s < e) (h2 : e ≤ n) :
    SlK W (.slice (some ⟨g, off + s * 7, none⟩) (e - s) (c - s)) ((css.drop s).take (e - s)) := by
  have hl : ((css.drop s).take (e - s)).length = e - s := by rw [List.length_take, List.length_drop]; omega
  refine ⟨some ⟨g, off + s * 7, none⟩, c - s, by rw [hl], by rw [hl]; omega, (fun e => by cases e), .inr ⟨g, off + s * 7, rfl, hg, fun j u hj => ?_⟩⟩
  have hsplit : css.flatten = (css.take s).flatten ++ (((css.drop s).take (e - s)).flatten ++ ((css.drop s).drop (e - s)).flatten) := by
    rw [← List.flatten_append, ← List.flatten_append, List.take_append_drop, List.take_append_drop]
  have hts : (css.take s).flatten.length = s * 7 := by
    rw [flat_len (k := 7) _ (fun x hx => hk x (List.mem_of_mem_take hx)), List.length_take]; congr 1; omega
  have := hc (s * 7 + j) u (by
    rw [hsplit, List.getElem?_append_right (by omega), hts, show s * 7 + j - s * 7 = j by omega]
    obtain ⟨hjl, _⟩ := List.getElem?_eq_some_iff.1 hj
    rw [List.getElem?_append_left hjl]; exact hj)
  rwa [← Nat.add_assoc] at this
theorem Rcs.cut {W : World} {css : List (List Value)} {rs : List Rc} (h : Rcs W css rs) (s m : Nat) : Rcs W ((css.drop s).take m) ((rs.drop s).take m) := by
  refine ⟨by simp [h.1], fun i h1 h2 => ?_⟩
  simp only [List.getElem_take, List.getElem_drop]
  rw [List.length_take, List.length_drop] at h1 h2
  exact h.2 _ (by omega) (by omega)
theorem runR_at {rs : List Rc} {s e : Nat} (h1 : s < e) (h2 : e ≤ rs.length) : ∃ y r, (rs.drop s).take (e - s) = y :: r ∧ y = rs[s] ∧ runR rs (s, e) = ⟨y.owner, leastM y.ttl r, y.data⟩ := by
  refine ⟨rs[s], (rs.drop (s + 1)).take (e - s - 1), ?_, rfl, ?_⟩
  · rw [List.drop_eq_getElem_cons (by omega)]
    obtain ⟨m, hm⟩ : ∃ m, e - s = m + 1 := ⟨e - s - 1, by omega⟩
    rw [hm, List.take_succ_cons]
    rfl
  · unfold runR
    rw [List.drop_eq_getElem_cons (show s < rs.length by omega)]
end Go.Proofs.YtckammgnmgkieaaGreat

/-
  The iterator that rec.Canon goes over.
-/
namespace Go.Proofs.YtckammgnmgkieaaGreat
set_option maxRecDepth 20000
open Go.RowKit Go.Shelf
set_option maxRecDepth 20000
set_option linter.unusedVariables false
set_option linter.unusedSimpArgs false

theorem insS_len (x : Rc) : ∀ l : List Rc, (insS l x).length = l.length + 1
  | [] => rfl
  | y :: r => by
    unfold insS
    split
    · simp [insS_len x r]
    · simp
theorem sortM_len (l : List Rc) : (sortM l).length = l.length := by
  unfold sortM
  suffices ∀ (l a : List Rc), (l.foldl insS a).length = a.length + l.length by simpa using this l []
  intro l
  induction l with
  | nil => intro a; simp
  | cons x l ih => intro a; rw [List.foldl_cons, ih, insS_len]; simp; omega
theorem sortM_in (l : List Rc) : ∀ z ∈ sortM l, z ∈ l := by
  unfold sortM
  suffices ∀ (l a : List Rc), ∀ z ∈ l.foldl insS a, z ∈ a ∨ z ∈ l by
    intro z hz
    rcases this l [] z hz with h | h
    · cases h
    · exact h
  intro l
  induction l with
  | nil => intro a z hz; exact .inl hz
  | cons x l ih =>
    intro a z hz
    rw [List.foldl_cons] at hz
    rcases ih _ z hz with h | h
    · rcases insS_mem a z h with rfl | h
      · exact .inr (by simp)
      · exact .inl h
    · exact .inr (by simp [h])
theorem SlK.moved {W W' : World} {v : Value} {css : List (List Value)} (h : SlK W v css) (hs : W.heap.size ≤ W'.heap.size) (hb : ∀ b, v.ownBlock = some b → b < W.heap.size → W'.heap[b]? = W.heap[b]?) : SlK W' v css := by
  obtain ⟨a, c, rfl, h1, h2, h3⟩ := h
  refine ⟨a, c, rfl, h1, h2, ?_⟩
  rcases h3 with h3 | ⟨b, off, rfl, hlt, hc⟩
  · exact .inl h3
  · exact .inr ⟨b, off, rfl, by omega, fun j u hj => (World.cell?_of_block (a := ⟨b, off + j, none⟩) (hb b rfl hlt)).trans (hc j u hj)⟩
theorem runs_stops (N B : Nat) (w W0 : World) (a : Option Addr) (m c b1 b2 : Nat) (css : List (List Value)) (rs : List Rc) (hA : SlK W0 (.slice a m c) css) (hm : css.length = m) (hmb : m ≤ 1048576) (hR : Rcs w css rs) (hOK : ∀ r ∈ rs, RcOK r)
    (hw : Below w.heap.size w W0) (hB : w.heap.size ≤ B) (hN : N = W0.heap.size) (hb1 : b1 < N) (hb1B : b1 ≠ B) (hb2 : b2 < N) (hb2B : b2 ≠ B) (hown : ∀ b, (Value.slice a m c).ownBlock = some b → b ≠ B)
    (hc1 : Boxed W0 b1 22 (.slice a m c)) (hc2 : Boxed W0 b2 172 (.func (.func 115) #[] #[])) :
    ∃ g off, (0 < m → a = some ⟨g, off, none⟩ ∧ g < W0.heap.size ∧ g ≠ B ∧ ∀ j u, css.flatten[j]? = some u → W0.cell? ⟨g, off + j, none⟩ = some u) ∧
    SeqStopsK Fence.wide 7 Tryz.prog 149 #[.pointer (some ⟨b1, 0, none⟩), .pointer (some ⟨b2, 0, none⟩)] (segV g off c (n := m)) (KpX N B) (fun xs => xs.map (·.1) = segs rs) (fun _ => True) m W0 := by
  have hck : ∀ cs ∈ css, cs.length = 7 := fun cs hc => by
    obtain ⟨i, hi, rfl⟩ := List.mem_iff_getElem.1 hc
    exact (hR.2 i hi (by have := hR.1; omega)).len
  obtain ⟨g, off, hg⟩ : ∃ g off, 0 < m → a = some ⟨g, off, none⟩ ∧ g < W0.heap.size ∧ ∀ j u, css.flatten[j]? = some u → W0.cell? ⟨g, off + j, none⟩ = some u := by
    by_cases h0 : 0 < m
    · obtain ⟨a', c', e, _, _, h3⟩ := id hA
      cases e
      rcases h3 with h3 | ⟨b, off, rfl, hlt, hc⟩
      · subst h3; rw [← hm] at h0; exact absurd h0 (Nat.lt_irrefl 0)
      · exact ⟨b, off, fun _ => ⟨rfl, hlt, hc⟩⟩
    · exact ⟨0, 0, fun h => absurd h h0⟩
  refine ⟨g, off, fun h0 => ?_, ?_⟩
  · obtain ⟨e, h1, h2⟩ := hg h0
    exact ⟨e, h1, hown g (by rw [e]; rfl), h2⟩
  have hnc : m ≤ c := by
    obtain ⟨a', c', e, h1, _⟩ := id hA
    cases e; omega
  have hrec : ∀ W, KpX N B W0 W → ∀ i (hi : i < css.length) (hi' : i < rs.length), RcAt W css[i] rs[i] := fun W hK i hi hi' =>
    (hR.2 i hi hi').below (hw.trans (hK.below hB (by rw [hN]; exact hw.size)))
  have H : RunW b1 b2 a g off m c css rs (KpX N B) (fun W => KpX N B W0 W) :=
    { c1 := fun W hK => Boxed.cell (t := 22) ((hK.block b1 hb1 hb1B).trans hc1)
      c2 := fun W hK => Boxed.cell (t := 172) ((hK.block b2 hb2 hb2B).trans hc2)
      ha := fun h0 => (hg h0).1
      el := fun W hK k hlt u0 u1 u2 u3 u4 u5 u6 e => by
        have h0 : 0 < m := by omega
        obtain ⟨ea, hgl, _⟩ := hg h0
        have hA2 : SlK W (.slice a m c) css := hA.moved hK.size (fun b e hb => hK.block b (by omega) (hown b e))
        obtain ⟨g', off', ea', _, hel⟩ := hA2.elem hck (by omega)
        rw [ea] at ea'
        cases ea'
        exact hel k hlt u0 u1 u2 u3 u4 u5 u6 e W (Below.refl _ _)
      same := fun W hK i j hi hj hi' hj' => rec_Same css[i] css[j] rs[i] rs[j] W (hrec W hK i hi hi') (hrec W hK j hj hj') (hOK _ (List.getElem_mem _)) (hOK _ (List.getElem_mem _))
      below := fun W W' h hb => h.trans (KpX.of_below (by rw [hN]; exact h.size) hb)
      kp := fun W W' h k => h.trans k
      shape := fun k hk => by
        obtain ⟨x0, x3, x4, x5, x6, e⟩ := (hR.2 k hk (by have := hR.1; omega)).shape
        exact ⟨_, _, x0, x3, x4, x5, x6, e⟩ }
  intro l J Jx W hW hJ hJx hY h0
  refine (runs1_in 7 (by omega) l b1 b2 a g off m c hnc (by omega) css rs hm (by rw [← hR.1]; exact hm) (KpX N B) _ H J Jx (fun pre W W' h hb => hJ pre W W' none h (grown_of_below hb) (fun _ e => by cases e)) hY W (KpX.of_below (by omega) hW) h0).mono ?_
  rintro e W' ⟨h1, h2 | ⟨pre, h2⟩⟩
  · exact ⟨h1, .inl h2⟩
  · exact ⟨h1, .inr ⟨pre, trivial, h2⟩⟩

end Go.Proofs.YtckammgnmgkieaaGreat

/-
  rec.Canon.
-/
namespace Go.Proofs.YtckammgnmgkieaaGreat
set_option maxRecDepth 20000
open Go.RowKit Go.Shelf
set_option maxRecDepth 20000
set_option linter.unusedVariables false
set_option linter.unusedSimpArgs false

theorem FrAt.withTTL {W : World} {base : Nat} {x0 x1 x2 x3 x4 x5 x6 : Value} {y : Rc} (t : Nat) (h : FrAt W base [x0, x1, x2, x3, x4, x5, x6] y) : FrAt W base [x0, .int .u32 (t : Int), x2, x3, x4, x5, x6] ⟨y.owner, t, y.data⟩ := by
  obtain ⟨vo, vn, vu, vt, vr, e, h1, h2⟩ := h
  simp only [List.cons.injEq, and_true] at e
  obtain ⟨rfl, -, rfl, rfl, rfl, rfl, rfl⟩ := e
  exact ⟨_, _, _, _, _, rfl, h1, h2⟩
theorem KeepsOthers.of_below {W W' : World} (hb : Below W.heap.size W W') : KeepsOthers W W' := ⟨hb.size, fun k o hk _ => (hb.block k (Array.getElem?_eq_some_iff.1 hk).1).trans hk⟩
theorem KeepsOthers.grown_c {k : Nat} {T : TypeId} {W W' : World} {base : Nat} {v : Value} {xss : List (List Value)} (h : OwnC k T W base v xss) (hg : W.grownBy W' v.ownBlock) : KeepsOthers W W' :=
  ⟨hg.size, fun i o hi ho => (hg.block i (Array.getElem?_eq_some_iff.1 hi).1 (fun e => by
    obtain ⟨cs, h3⟩ := h.blk i e.symm
    rw [hi] at h3; cases h3; cases ho)).trans hi⟩

def CanonPost (w : World) (rs : List Rc) (e : Ending) (w' : World) : Prop :=
  ∃ v css, e = .returned v ∧ OwnC 7 103 w' w.heap.size v css ∧ css.length = (canonM rs).length ∧ (∀ j (h1 : j < css.length) (h2 : j < (canonM rs).length), FrAt w' w.heap.size css[j] (canonM rs)[j]) ∧ Below w.heap.size w w'

section
attribute [local go_sem] Oper.semAt_some
set_option maxRecDepth 100000 in
set_option maxHeartbeats 8000000 in
theorem rec_Canon (v : Value) (css : List (List Value)) (rs : List Rc) (w : World) (hA : SlK w v css) (hR : Rcs w css rs) (hOK : ∀ r ∈ rs, RcOK r) (hl : css.length ≤ 1048576) :
    Calls Tryz.prog 62 #[v] w (CanonPost w rs) := by
  have hS := rec_sorted w v css rs (w.alloc (.cells #[.slice none 0 0] 22)) ((Below.refl _ w).alloc (Nat.le_refl _) _) (hA.below ((Below.refl _ w).alloc (Nat.le_refl _) _)) hR hOK (by omega)
  have HL := Lib.hid (show rs.length ≤ 1048576 by have := hR.1; omega)
  have HOK := Lib.hid hOK
  obtain ⟨a, c, rfl, -⟩ := id hA
  obtain ⟨n0, hn0⟩ : ∃ n, css.length = n := ⟨_, rfl⟩
  rw [hn0] at hS ⊢
  clear hA hR hOK hl hn0
  refine (callsIn_wide (n := 8)).1 ?_
  refine callsIn_of_wp_marks Tryz.func62 rfl trivial ?_ rfl
  simp only [Tryz.ntmps62, List.size_toArray, List.length_cons, List.length_nil, Nat.reduceAdd, Nat.reduceSub, Array.replicate_succ, Array.replicate_zero, List.push_toArray, List.append_toArray, List.nil_append, List.cons_append]
  gi_wp2_with (refine ⟨trivial, ?_⟩; gi_at_call 113; refine (callsIn_wide.2 hS).mono ?_; rintro e w1 ⟨v1, css1, rfl, hA1, hR1, hb1, hB1⟩; obtain ⟨a1, c1, rfl, -⟩ := id hA1; obtain ⟨m, hm⟩ : ∃ m, css1.length = m := ⟨_, rfl⟩; rw [hm] at hA1 hb1 ⊢; have HA1 := Lib.hid hA1; have HR1 := Lib.hid hR1; have Hb1 := Lib.hid hb1; have HB1 := Lib.hid hB1; have HM := Lib.hid hm; clear hA1 hR1 hb1 hB1 hm hS)
  refine ⟨trivial, ?_⟩
  refine (callsIn_wide.2 (rec_runs _ _ _ _)).mono ?_
  rintro e w2 ⟨rfl, rfl⟩
  gi_wp2
  obtain ⟨B, hB⟩ : ∃ B, w.heap.size = B := ⟨_, rfl⟩
  obtain ⟨W0, hW0⟩ : ∃ W0, (w1.alloc (.cells #[.slice a1 m c1] 22)).alloc (.cells #[.func (.func 115) #[] #[]] 172) = W0 := ⟨_, rfl⟩
  obtain ⟨N, hN⟩ : ∃ N, W0.heap.size = N := ⟨_, rfl⟩
  have hsz : N = w1.heap.size + 2 := by rw [← hN, ← hW0]; simp
  have hs1 : B + 1 ≤ w1.heap.size := by have := HB1.out.size; simp at this; omega
  have hBx : Boxed w1 B 22 (.slice none 0 0) := by
    have h := Boxed.new w 22 (.slice none 0 0)
    rw [hB] at h
    exact (HB1.out.block B (by simp; omega)).trans h
  have hw1 : Below w.heap.size w w1 := (((Below.refl _ w).alloc (Nat.le_refl _) _).trans (HB1.out.mono (by simp)))
  have hB01 : Below w1.heap.size w1 W0 := by rw [← hW0]; exact ((Below.refl _ w1).alloc (Nat.le_refl _) _).alloc (by simp) _
  have b1 : Boxed W0 w1.heap.size 22 (.slice a1 m c1) := by rw [← hW0]; exact (Boxed.new w1 _ _).alloc _
  have b2 : Boxed W0 (w1.heap.size + 1) 172 (.func (.func 115) #[] #[]) := by
    have := Boxed.new (w1.alloc (.cells #[.slice a1 m c1] 22)) 172 (.func (.func 115) #[] #[])
    rw [World.size_alloc] at this
    rw [← hW0]; exact this
  have hBx0 : Boxed W0 B 22 (.slice none 0 0) := (hB01.block B (by omega)).trans hBx
  have hmb : m ≤ 1048576 := by have := HM.out; have := HR1.out.1; have := HL.out; rw [sortM_len] at *; omega
  have hOKs : ∀ r ∈ sortM rs, RcOK r := fun r h => HOK.out r (sortM_in rs r h)
  have hw0 : Below w.heap.size w W0 := hw1.trans (hB01.mono (by omega))
  obtain ⟨g, off, hg, hseq⟩ := runs_stops N B w W0 a1 m c1 w1.heap.size (w1.heap.size + 1) css1 (sortM rs) (HA1.out.below hB01) HM.out hmb HR1.out hOKs hw0 (by omega) hN.symm (by omega) (by omega) (by omega) (by omega) (fun b e => by have := Hb1.out b e; simp at this; omega) b1 b2
  have hsl : m = (sortM rs).length := by rw [← HR1.out.1]; exact HM.out.symm
  have hnc : m ≤ c1 := by
    obtain ⟨a', c', e, h1, _⟩ := HA1.out
    have := HM.out
    cases e; omega
  have hck : ∀ cs ∈ css1, cs.length = 7 := fun cs hc => by
    obtain ⟨i, hi, rfl⟩ := List.mem_iff_getElem.1 hc
    exact (HR1.out.2 i hi (by have := HR1.out.1; omega)).len
  rw [hB, hW0]
  have HSEQ := Lib.hid hseq; have HG := Lib.hid hg; have HSZ := Lib.hid hsz; have HS1 := Lib.hid hs1; have HW0 := Lib.hid hw0; have HMB := Lib.hid hmb; have HOKS := Lib.hid hOKs; have HSL := Lib.hid hsl; have HNC := Lib.hid hnc; have HCK := Lib.hid hck; have HB := Lib.hid hB; have HN := Lib.hid hN
  clear hseq hg hsz hs1 hw0 hmb hOKs hsl hnc hck hBx hw1 hB01 b1 b2 HB1 Hb1 HA1 hW0 hB hN
  refine wpIn_rangeFunc_ownG rfl (by omega) (gf := 149) (lb := #[.pointer (some ⟨w1.heap.size, 0, none⟩), .pointer (some ⟨w1.heap.size + 1, 0, none⟩)]) rfl trivial (enters_of Tryz.func149 (by kernel_rfl) rfl)
    HSEQ.out (fun h k => h.trans k)
    (fun W l o o' hl h h1 h2 => ⟨rfl, rfl, rfl, by simp, fun k a b => World.putObj_heap_other (by have := HN.out; omega)⟩) (Below.refl _ _) (fun _ => rfl)
    (CanI N B W0 (sortM rs)) (fun k pre W => False) (by rw [HN.out]; exact canI_own (by have := HSZ.out; have := HS1.out; omega) (by rw [HN.out]; omega)) (fun _ => ownFrom_pure _ _)
    ⟨KpX.refl _ _ _, .slice none 0 0, [], hBx0, OwnK.nil _ _, rfl, fun j h => by simp at h⟩
    (fun x => { tmps := #[.slice a n0 c, undef, .slice none 0 0, .pointer (some ⟨B, 0, none⟩), .slice (some ⟨g, off + x.1.1 * 7, none⟩) (x.1.2 - x.1.1) (c1 - x.1.1), undef, .slice a n0 c, .slice a1 m c1, .func (.func 149) #[] #[.pointer (some ⟨w1.heap.size, 0, none⟩), .pointer (some ⟨w1.heap.size + 1, 0, none⟩)], .slice (some ⟨g, off + x.1.1 * 7, none⟩) (x.1.2 - x.1.1) (c1 - x.1.1), undef, undef, undef, undef, undef, undef, undef, undef, undef, undef, undef, undef], defers := [] }) ?assign ?body ?done ?stop
  case assign =>
    intro l x W K hK
    unfold segV
    gi_wp2
    exact hK
  case body =>
    rintro l pre ⟨⟨s, e⟩, hx1, hx2⟩ W ⟨hK, v, css, hb, ho, hl, hf⟩ hlt
    simp only at hx1 hx2
    have hs1 : s < css1.length := by rw [HM.out]; omega
    have hs2 : s < (sortM rs).length := by have := HSL.out; omega
    obtain ⟨ha, hgW, hgB, hcW⟩ := HG.out (by omega)
    subst ha
    have hNW : N ≤ W.heap.size := by rw [← HN.out]; exact hK.size
    have hgN : g < N := by rw [← HN.out]; exact hgW
    have hwW : Below w.heap.size w W := HW0.out.trans (hK.below (by have := HB.out; omega) (by have := HN.out; have := HW0.out.size; omega))
    have hRW : Rcs W css1 (sortM rs) := ⟨HR1.out.1, fun i h1 h2 => (HR1.out.2 i h1 h2).below hwW⟩
    have hpc := SlK.cut (W := W) HCK.out HM.out HNC.out (by omega) (fun j u hj => (World.cell?_of_block (a := ⟨g, off + j, none⟩) (hK.block g hgN hgB)).trans (hcW j u hj)) s e hx1 hx2
    have hpr := hRW.cut s (e - s)
    obtain ⟨y, r, hyr, hy, hrun⟩ := runR_at (rs := sortM rs) hx1 (by rw [← HSL.out]; exact hx2)
    have hyok : RcOK y := by rw [hy]; exact HOKS.out _ (List.getElem_mem _)
    have hrok : ∀ z ∈ y :: r, RcOK z := fun z hz => HOKS.out z (by rw [← hyr] at hz; exact List.mem_of_mem_drop (List.mem_of_mem_take hz))
    have hplen : ((css1.drop s).take (e - s)).length = e - s := by rw [List.length_take, List.length_drop]; have := HM.out; omega
    have hpck : ∀ cs ∈ (css1.drop s).take (e - s), cs.length = 7 := fun cs h => HCK.out cs (List.mem_of_mem_drop (List.mem_of_mem_take h))
    rw [hyr] at hpr
    generalize (css1.drop s).take (e - s) = pcs at hpc hpr hplen hpck
    obtain ⟨L, hL⟩ : ∃ L, e - s = L + 1 := ⟨e - s - 1, by omega⟩
    obtain ⟨off2, hoff⟩ : ∃ o, off + s * 7 = o := ⟨_, rfl⟩
    obtain ⟨c2, hc2⟩ : ∃ o, c1 - s = o := ⟨_, rfl⟩
    have hL20 : L + 1 ≤ 1048576 := by have := HMB.out; omega
    simp only [hL, hoff, hc2]
    rw [hL, hoff, hc2] at hpc
    rw [hL] at hplen
    obtain ⟨g', off', ea, hgl, hel⟩ := hpc.elem hpck (by omega)
    cases ea
    have hR0 : RcAt W (pcs[0]'(by omega)) y := hpr.2 0 (by omega) (by simp)
    have HFr := Lib.hid (rec_fresh _ y W hR0 hyok)
    obtain ⟨⟨p0, q0, r0⟩, ⟨p3, q3, r3⟩, ⟨p4, q4, r4⟩, ⟨p5, q5, r5⟩, ⟨p6, q6, r6⟩, e0⟩ := hR0.shape
    simp only at e0
    have hcell := hel 0 (by omega) _ _ _ _ _ _ _ e0 W (Below.refl _ _)
    simp only [Nat.zero_mul, Nat.add_zero] at hcell
    obtain ⟨g0, g1, g2, g3, g4, g5, g6⟩ := hcell
    rw [e0] at HFr
    have HLeast := Lib.hid (fun W' (hb : Below W.heap.size W W') => rec_least _ pcs y r W' (hpc.below hb) (hpr.below hb) hrok (by omega))
    have HK := Lib.hid hK; have HBX := Lib.hid hb; have HOW := Lib.hid ho; have HLEN := Lib.hid hl; have HF := Lib.hid hf; have HRUN := Lib.hid hrun; have HPRE := Lib.hid hlt; have HNW := Lib.hid hNW
    have hLz : (0 : Int) < ((L + 1 : Nat) : Int) := by omega
    clear hK hb ho hl hf hrun hlt hs1 hs2 hgW hgB hcW hNW hgN hwW hRW hpc hpr hyr hy hyok hrok hplen hpck hL hoff hc2 hgl hel hR0 e0 hBx0 HSEQ HG HSZ HS1 HL HOK HR1 HM HOKS HSL HNC HCK HN
    gi_wp2_with (refine ⟨trivial, ?_⟩; gi_at_call 116; refine (CallsIn.inRound l (callsIn_wide.2 HFr.out)).mono ?_; rintro e w2 ⟨cs, rfl, hfr, hb2⟩; obtain ⟨⟨i0, j0, k0⟩, ⟨i3, j3, k3⟩, ⟨i4, j4, k4⟩, ⟨i5, j5, k5⟩, ⟨i6, j6, k6⟩, e1⟩ := hfr.rcAt.shape; simp only at e1; subst e1; have HFR := Lib.hid hfr; have HB2 := Lib.hid hb2; clear hfr hb2 HFr g0 g1 g2 g3 g4 g5 g6)
    obtain ⟨W3, hW3⟩ : ∃ W3, w2.alloc (.cells #[.slice i0 j0 k0, .int .u32 (y.ttl : Int), .int .i64 y.data.ty, .slice i3 j3 k3, .slice i4 j4 k4, .slice i5 j5 k5, .slice i6 j6 k6] 103) = W3 := ⟨_, rfl⟩
    have hx3 : W3.heap[w2.heap.size]? = some (.cells #[.slice i0 j0 k0, .int .u32 (y.ttl : Int), .int .i64 y.data.ty, .slice i3 j3 k3, .slice i4 j4 k4, .slice i5 j5 k5, .slice i6 j6 k6] 103) := by rw [← hW3]; exact knew _ _
    have HB3 : Hid (Below W.heap.size W W3) := by rw [← hW3]; exact Lib.hid (HB2.out.alloc HB2.out.size _)
    have HFR3 : Hid (FrAt W3 W.heap.size [.slice i0 j0 k0, .int .u32 (y.ttl : Int), .int .i64 y.data.ty, .slice i3 j3 k3, .slice i4 j4 k4, .slice i5 j5 k5, .slice i6 j6 k6] y) := by rw [← hW3]; exact Lib.hid (HFR.out.below ((Below.refl _ w2).alloc (Nat.le_refl _) _))
    rw [hW3]
    have HW2 := Lib.hid HB2.out.size
    obtain ⟨t, ht⟩ : ∃ t, leastM y.ttl r = t := ⟨_, rfl⟩
    have hle := HLeast.out W3 HB3.out
    rw [ht] at hle HRUN
    clear HB2 HFR hW3 HLeast
    refine ⟨trivial, ?_⟩
    refine (CallsIn.inRound l (callsIn_wide.2 hle)).mono ?_
    rintro e' w4 ⟨rfl, hb4⟩
    have hx4 := (hb4.block _ (kblock_lt hx3)).trans hx3
    have hx5 : (w4.setCell ⟨w2.heap.size, 1, none⟩ (.int .u32 (t : Int))).heap[w2.heap.size]? = some (.cells #[.slice i0 j0 k0, .int .u32 (t : Int), .int .i64 y.data.ty, .slice i3 j3 k3, .slice i4 j4 k4, .slice i5 j5 k5, .slice i6 j6 k6] 103) := kset hx4 1 (.int .u32 (t : Int))
    have hf4 := kfrozen hx4 1
    have hc41 := kcell hx4 1 _ rfl
    have HB5 := Lib.hid ((HB3.out.trans (hb4.mono HB3.out.size)).setCell (p := ⟨w2.heap.size, 1, none⟩) HW2.out (.int .u32 (t : Int)))
    have HFR5 := Lib.hid ((((HFR3.out.below hb4).keepB hx4 1 (.int .u32 (t : Int))).withTTL t).weaken HNW.out)
    have hBx5 : Boxed (w4.setCell ⟨w2.heap.size, 1, none⟩ (.int .u32 (t : Int))) B 22 v := (HB5.out.block B HBX.out.lt).trans HBX.out
    have HOW5 := Lib.hid (OwnK.below HOW.out HB5.out)
    have hbc := Boxed.cell (t := 22) hBx5
    have y0 := kcell hx5 0 _ rfl; have y1 := kcell hx5 1 _ rfl; have y2 := kcell hx5 2 _ rfl; have y3 := kcell hx5 3 _ rfl; have y4 := kcell hx5 4 _ rfl; have y5 := kcell hx5 5 _ rfl; have y6 := kcell hx5 6 _ rfl
    have HBX5 := Lib.hid hBx5
    clear hx3 hx4 hb4 HB3 HFR3 hle hBx5 hx5
    have hlen : css.length + 1 ≤ 1048577 := by have h := HLEN.out; have h2 := HPRE.out; have h3 := HMB.out; rw [List.length_map] at h; omega
    have HLN := Lib.hid hlen
    have hnb : N ≤ (w4.setCell ⟨w2.heap.size, 1, none⟩ (.int .u32 (t : Int))).heap.size := Nat.le_trans HNW.out HB5.out.size
    have HNB := Lib.hid hnb
    clear hlen hnb
    gi_wp2_with (gi_at_builtin; refine wplIn_append_c (w4.setCell ⟨w2.heap.size, 1, none⟩ (.int .u32 (t : Int))) rfl (.tmp 17) (.tmp 19) elem_rec (by decide) rfl N v css rfl HOW5.out [.slice i0 j0 k0, .int .u32 (t : Int), .int .i64 y.data.ty, .slice i3 j3 k3, .slice i4 j4 k4, .slice i5 j5 k5, .slice i6 j6 k6] rfl (by intro u hu; simp only [List.mem_cons, List.not_mem_nil, or_false] at hu; rcases hu with rfl | rfl | rfl | rfl | rfl | rfl | rfl <;> rfl) 1 (by simp [Act.eval]) HNB.out (by have := HLN.out; unfold maxLen; omega) (by have := HLN.out; omega) ?_; intro v6 w6 hown6 hg6; obtain ⟨a9, c9, e9⟩ := OwnK.shape hown6; generalize List.length _ = ln at e9; subst e9; have hne6 : some B ≠ v.ownBlock := HOW5.out.ne_block HBX5.out (by decide); have hBx6 := HBX5.out.kept hg6 hne6; have c6 := hBx6.cell; have f6 := hBx6.frozen; have HBX6 := Lib.hid hBx6; have HOW6 := Lib.hid hown6; have HG6 := Lib.hid hg6; clear hne6 hBx6 hown6 hg6)
    have hK6 : KpX N B W (w6.setCell ⟨B, 0, none⟩ (.slice a9 ln c9)) :=
      ((KpX.of_below HNW.out HB5.out).trans (KpX.grown HNB.out HG6.out (fun r e => .inl (OwnK.base_le HOW5.out r e)))).trans (KpX.grown (Nat.le_trans HNB.out HG6.out.size) (grownBy_set w6 B 0 _) (fun r e => by cases e; exact .inr rfl))
    have hko : KeepsOthers W (w6.setCell ⟨B, 0, none⟩ (.slice a9 ln c9)) :=
      ((KeepsOthers.of_below HB5.out).trans (KeepsOthers.grown_c HOW5.out HG6.out)).trans (KeepsOthers.setCell _ _ _)
    refine ⟨hko.from _, hK6, HK.out.trans hK6, ?_⟩
    rw [List.map_append]
    refine OutAt.snoc HBX5.out HOW5.out HLEN.out (fun j h1 h2 => (HF.out j h1 h2).below HB5.out) ?_ HOW6.out HG6.out
    show FrAt _ N _ (runR (sortM rs) (s, e))
    rw [HRUN.out]
    exact HFR5.out
  case done =>
    rintro D zs W hD hzs ⟨hK, v, css, hb, ho, hl, hf⟩ hD0
    have hc := hb.cell
    rw [hzs] at hl hf
    have hcan : canonM rs = (segs (sortM rs)).map (runR (sortM rs)) := by rw [segs_grp, grp_sortM]
    have HCAN := Lib.hid hcan; have HL2 := Lib.hid hl; have HF2 := Lib.hid hf; have HK2 := Lib.hid hK; have HO2 := Lib.hid ho; have HZS := Lib.hid hzs
    have HD := Lib.hid hD
    clear hcan hl hf hK ho hzs hD
    gi_wp2
    refine ⟨by simp, .inl ⟨_, _, rfl, run_takeDeferred hD0, ?_⟩⟩
    refine ⟨_, results_tmp rfl _ _ _, ?_⟩
    have hr : ∀ r, some D = some r → ∃ o : Obj, W.heap[r]? = some o ∧ o.isCells = false := fun r e => by cases e; exact ⟨_, hD0, rfl⟩
    have hDN : w.heap.size ≤ D := by have := HD.out; have := HW0.out.size; omega
    have hwN : w.heap.size ≤ N := by have := HN.out; have := HW0.out.size; omega
    refine ⟨v, css, rfl, (HO2.out.keptO (grownBy_putObj' W D _) hr).weaken hwN, by rw [HL2.out, HCAN.out, List.length_map], fun j h1 h2 => ?_, ?_⟩
    · have hj : j < (segs (sortM rs)).length := by rw [← HL2.out]; exact h1
      have e : (canonM rs)[j]'h2 = runR (sortM rs) (segs (sortM rs))[j] := by
        simp only [HCAN.out, List.getElem_map]
      rw [e]
      exact ((HF2.out j h1 hj).keptO (grownBy_putObj' W D _) hr).weaken hwN
    · exact below_putO (HW0.out.trans (HK2.out.below (by have := HB.out; omega) hwN)) hDN (Nat.le_refl _)
  case stop =>
    rintro D c3 pre W hD hp hF hK
    exact hF.elim
end
end Go.Proofs.YtckammgnmgkieaaGreat

