/-
  The document's Lexer in memory: flush.
-/
import Derived.Test.YtlgbdbaacjahpaaTokLE
import Derived.Deep.RegionLaw
import Derived.Deep.CutBlock
import Derived.Deep.DeepCutAuto
import Derived.Deep.Upon
namespace Go.Proofs.Ytlgbdbaacjahpaa
open Go.RowKit Go.Shelf
set_option maxRecDepth 20000
set_option linter.unusedVariables false

theorem elemRW : ElemK 2 38 33 24 := ⟨Try.underlying33, _, _, rfl, rfl, rfl, rfl, rfl⟩
theorem encW_oneR (t : TW) : ∀ u ∈ encW t, u.oneCell' = true := by intro u hu; simp [encW] at hu; rcases hu with rfl | rfl <;> rfl
theorem own_emp {α : Type} {k : Nat} {T : TypeId} {enc : α → List Value} {W : World} {A base : Nat} (h : W.heap[A]? = some (.cells #[] T)) (hb : base ≤ A) : OwnK k T enc W base (.slice (some ⟨A, 0, none⟩) 0 0) [] :=
  ⟨by simp, .inr ⟨A, 0, #[], rfl, hb, h, Nat.le_refl _, Nat.zero_le _, by simp, by simp⟩⟩
theorem own_lit {α : Type} {k : Nat} {T : TypeId} {enc : α → List Value} {W : World} {C : Nat} {cs : Array Value} (x : α) (h : W.heap[C]? = some (.cells cs T)) (hc : cs.toList = enc x) (henc : (enc x).length = k) : OwnK k T enc W 0 (.slice (some ⟨C, 0, none⟩) 1 1) [x] := by
  have hsz : cs.size = k := by rw [← henc, ← hc, Array.length_toList]
  refine ⟨by simp [henc], .inr ⟨C, 1, cs, rfl, Nat.zero_le _, h, Nat.le_refl _, by unfold maxLen; omega, by rw [Nat.one_mul]; exact hsz, ?_⟩⟩
  rw [List.flatMap_cons, List.flatMap_nil, List.append_nil, ← hc]
  exact List.take_of_length_le (by rw [Array.length_toList, hsz]; simp)
/-- A step of a region that draws its order: a row of the call's own behind another one, be it empty or not. -/
theorem step_app2 {α : Type} {k : Nat} {T S : TypeId} {enc : α → List Value} {bytes : Nat} {ops : Array Oper} {o : Oper} {a : Act} {w : World} {K : Act → World → Prop} {Q : Exit → Act → World → Prop} {E : Prop} (hgd : o.guard = none) (s x : Operand)
    (ho : o.op = .call { callee := .builtin .append, args := #[s, x], argTypes := #[S, S] }) (hE : ElemK k T S bytes) (hk0 : 0 < k) (hone : ∀ x : α, ∀ u ∈ enc x, u.oneCell' = true) (henc : ∀ x, (enc x).length = k)
    (base : Nat) (v : Value) (xs : List α) (hs : a.eval s = v) (hown : OwnK k T enc w base v xs)
    (base2 : Nat) (u : Value) (ys : List α) (hx : a.eval x = u) (hsrc : OwnK k T enc w base2 u ys)
    (hbase : base ≤ w.heap.size) (hl : xs.length + ys.length ≤ maxLen) (hb : (xs.length + ys.length) * bytes ≤ 140737488355328)
    (h : ∀ a' m' c' w', OwnK k T enc w' base (.slice a' m' c') (xs ++ ys) → w.grownBy w' v.ownBlock → K (a.put o.dst (.slice a' m' c')) w') :
    if Region.wanted o (yielded ops a.tmps) = true then Oper.wp Try.prog o a w K Q else E := by
  have hw : Region.wanted o (yielded ops a.tmps) = true := by simp [Region.wanted, hgd]
  rw [if_pos hw]
  obtain ⟨ht, i, z, hi, hz, hz1, hz2, hzc⟩ := hE
  by_cases hy : ys = []
  · subst hy
    obtain ⟨a1, c1, rfl, hle⟩ : ∃ a1 c1, v = .slice a1 xs.length c1 ∧ xs.length ≤ c1 := by
      rcases hown.2 with ⟨rfl, h0⟩ | ⟨g, cap, cur, rfl, _, _, hc, _⟩
      · exact ⟨none, 0, by rw [h0], by omega⟩
      · exact ⟨_, _, rfl, hc⟩
    have hsr : Src Try.prog i.size S u 0 [] w := by
      rcases hsrc.2 with ⟨rfl, _⟩ | ⟨g, cap, cur, rfl, _⟩
      · exact Src.ofNil w ht 0
      · exact Src.ofSlice w ht ⟨g, 0, none⟩ 0 cap [] (by simp) (by intro j u hu; simp at hu) (by intro u hu; cases hu)
    have hr := run_append_nothing w S S o.type T i ht hi a1 xs.length c1 hle u hsr
    unfold Oper.wp execOp
    simp only [ho, resolve, invoke, builtin, Sem.run_bind, Sem.run_pure, Result.andThen_ok, List.map_toArray, List.map_cons, List.map_nil, hs, hx, hr]
    have hown' : OwnK k T enc w base (.slice a1 xs.length c1) (xs ++ []) := by rw [List.append_nil]; exact hown
    exact h a1 _ c1 w hown' (kg_refl _ _)
  · obtain ⟨g, cap, cur, rfl, hb2, hg, hc, hmx, hsz, htk⟩ : ∃ g cap cur, u = .slice (some ⟨g, 0, none⟩) ys.length cap ∧ base2 ≤ g ∧ w.heap[g]? = some (.cells cur T (0, 0)) ∧ ys.length ≤ cap ∧ cap ≤ maxLen ∧ cur.size = cap * k ∧ cur.toList.take (ys.length * k) = ys.flatMap enc := by
      rcases hsrc.2 with ⟨_, h0⟩ | h
      · exact absurd (List.eq_nil_of_length_eq_zero h0) hy
      · exact h
    have hnews : ∀ j u, (ys.flatMap enc)[j]? = some u → w.cell? ((⟨g, 0, none⟩ : Addr).add j) = some u := by
      intro j u hu
      refine World.news_of_block hg j u ?_
      rw [← htk, List.getElem?_take] at hu
      split at hu
      · exact hu
      · cases hu
    have hone' : ∀ u ∈ ys.flatMap enc, u.oneCell' = true := by intro u hu; obtain ⟨y, _, hy⟩ := List.mem_flatMap.1 hu; exact hone y u hy
    obtain ⟨v', w', hr, h2, h3, _, h5⟩ := run_append_own_at (P := Try.prog) w base S o.type T i z k bytes ht hi hz hz1 hz2 hzc hk0 v xs.length (xs.flatMap enc) hown ⟨g, 0, none⟩ ys.length cap (ys.flatMap enc) hsrc.1 hnews hone' hl hb hbase
    have h2' : OwnK k T enc w' base v' (xs ++ ys) := by
      unfold OwnK
      rw [List.length_append, List.flatMap_append]
      exact h2
    obtain ⟨a1, c1, rfl⟩ := h2'.shape
    unfold Oper.wp execOp
    simp only [ho, resolve, invoke, builtin, Sem.run_bind, Sem.run_pure, Result.andThen_ok, List.map_toArray, List.map_cons, List.map_nil, hs, hx, hr]
    exact h a1 _ c1 w' h2' h3
theorem grown_below {α : Type} {k : Nat} {T : TypeId} {enc : α → List Value} {n : Nat} {W X w1 : World} {v : Value} {xs : List α} (hb : Below n W X) (hown : OwnK k T enc X n v xs) (hn : n ≤ X.heap.size) (hg : X.grownBy w1 v.ownBlock) : Below n W w1 := hb.trans ((Below.refl n X).grown hg hn hown.base_le)
theorem REs.below {W W' : World} {base : Nat} {v : Value} {l : List Ent} (h : REs W base v l) (hb : Below W.heap.size W W') : REs W' base v l := by
  obtain ⟨ds, g1, g2, g3⟩ := h
  refine ⟨ds, g1.below hb, g2, fun j a b => ?_⟩
  obtain ⟨k1, k2, k3⟩ := g3 j a b
  exact ⟨k1, k2, OwnK.below k3 hb⟩
theorem flushW (W : World) (emp lit : Obj) : Below W.heap.size W (W.alloc emp).drew ∧ Below W.heap.size W ((W.alloc emp).alloc lit).drew ∧ Below W.heap.size W ((W.alloc lit).alloc emp).drew ∧ (W.alloc emp).drew.heap[W.heap.size]? = some emp ∧ ((W.alloc emp).alloc lit).drew.heap[W.heap.size]? = some emp ∧ ((W.alloc lit).alloc emp).drew.heap[W.heap.size + 1]? = some emp ∧ ((W.alloc emp).alloc lit).drew.heap[W.heap.size + 1]? = some lit ∧ ((W.alloc lit).alloc emp).drew.heap[W.heap.size]? = some lit := by
  refine ⟨kdrew ((Below.refl _ W).alloc (Nat.le_refl _) emp), kdrew (((Below.refl _ W).alloc (Nat.le_refl _) emp).alloc (by simp) lit), kdrew (((Below.refl _ W).alloc (Nat.le_refl _) lit).alloc (by simp) emp), knew W emp, (Below.heap_alloc _ _ _ (by simp)).trans (knew W emp), ?_, ?_, (Below.heap_alloc _ _ _ (by simp)).trans (knew W lit)⟩
  · have := knew (W.alloc lit) emp; rw [World.size_alloc] at this; exact this
  · have := knew (W.alloc emp) lit; rw [World.size_alloc] at this; exact this
theorem flush_fin {w W w2 : World} {B base : Nat} {y z : LS} {q : Bool} {n : Nat} {vo : Value} {a2 a : Option Addr} {k c2 m c : Nat} (hz : lPut q n y = { ({ z with ewords := z.ewords ++ [(z.w, q)] } : LS) with w := [], inn := false })
    (hB : W.heap[B]? = some (.cells (lCells vo (.slice a2 k c2) z) 54)) (hR : LRow W base vo (.slice a2 k c2) z) (hBb : base ≤ B) (hw : Below base w W) (hb : Below W.heap.size W w2) (hown : OwnK 2 38 encW w2 W.heap.size (.slice a m c) (z.ewords ++ [(z.w, q)])) :
    LexPost B base (lPut q n y) w (.returned (.tuple #[])) (((w2.setCell ⟨B, 3, none⟩ (.slice a m c)).setCell ⟨B, 7, none⟩ (.string ⟨#[]⟩)).setCell ⟨B, 8, none⟩ (.bool false)) := by
  have hlt := kblock_lt hB
  have hb2 := (hb.block B hlt).trans hB
  have hle : base ≤ W.heap.size := by omega
  have h3 := kset hb2 3 (.slice a m c)
  have h7 := kset h3 7 (.string ⟨#[]⟩)
  have hr : LRow w2 base vo (.slice a m c) { ({ z with ewords := z.ewords ++ [(z.w, q)] } : LS) with w := [], inn := false } := ⟨REs.below hR.1 hb, OwnK.weaken hown hle⟩
  rw [hz]
  exact ⟨rfl, ⟨vo, .slice a m c, kset h7 8 _, ((hr.set hb2 3 _).set h3 7 _).set h7 8 _⟩, (((hw.trans (hb.mono hle)).setCell (p := ⟨B, 3, none⟩) hBb _).setCell (p := ⟨B, 7, none⟩) hBb _).setCell (p := ⟨B, 8, none⟩) hBb _⟩
def lFl (q : Bool) (n : Nat) (y : LS) : LS := if y.inn = true ∨ q = true then lPut q n y else y
end Go.Proofs.Ytlgbdbaacjahpaa
