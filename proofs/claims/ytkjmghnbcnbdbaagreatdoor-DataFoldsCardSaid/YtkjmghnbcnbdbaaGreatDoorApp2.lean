/-
  append of a slice of another named type with the same elements: it does what append of one type does.
-/
import Derived.Test.YtkjmghnbcnbdbaaGreatDoorMQ15
namespace Go.Proofs.YtkjmghnbcnbdbaaGreatDoor
open Go.RowKit Go.Shelf

theorem append_alike {P : Program} (W : World) (t t2 ty e e2 : TypeId) (a1 a2 : Option Addr) (n1 c1 n2 c2 : Nat) (h : P.underlying t = some (.slice e)) (h2 : P.underlying t2 = some (.slice e2)) (i : TypeInfo) (hi : P.info? e = some i) :
    (Builtin.append_ #[t, t2] ty #[.slice a1 n1 c1, .slice a2 n2 c2]).run P W = (Builtin.append_ #[t, t] ty #[.slice a1 n1 c1, .slice a2 n2 c2]).run P W := by
  unfold Builtin.append_
  simp [run_underlying h, run_underlying h2, sizeOf, typeInfo, hi, Builtin.lenOf]

/-- append of a whole slice of strings, of another named type, to one of the call's own. -/
theorem wpl_append_s2 {S S2 : TypeId} {ops : Array Oper} {rest : List Oper} {o : Oper} {a : Act} {Q : Exit → Act → World → Prop} (W : World) (hgd : o.guard = none) (s x : Operand) (hE : ElemT 9 S 16) (hE2 : ElemT 9 S2 16)
    (ho : o.op = .call { callee := .builtin .append, args := #[s, x], argTypes := #[S, S2] })
    (base : Nat) (v : Value) (xs : Nm) (hs : a.eval s = v) (hown : OwnG 9 strV W base v xs)
    (src : Value) (ys : Nm) (hx : a.eval x = src) (hsrc : StrsAt W src ys) (hok : SlOK src)
    (hbase : base ≤ W.heap.size) (hk : xs.length + ys.length ≤ maxLen) (hk2 : (xs.length + ys.length) * 16 ≤ 140737488355328)
    (h : ∀ v' w', OwnG 9 strV w' base v' (xs ++ ys) → W.grownBy w' v.ownBlock → wpList Tryz.prog ops Q rest (a.put o.dst v') w') :
    wpList Tryz.prog ops Q (o :: rest) a W := by
  obtain ⟨ht, i, z, hi, hz, hz1, hz2, hzc⟩ := hE
  obtain ⟨a0, c0, rfl, _⟩ := id hsrc
  obtain ⟨av, cv, rfl⟩ := hown.shape
  have hal := append_alike (P := Tryz.prog) W S S2 o.type _ _ av a0 xs.length cv ys.length c0 ht hE2.ht i hi
  cases a0 with
  | none =>
    obtain ⟨a1, n1, c1, e1, _, e2⟩ := hok
    cases e1
    have e3 := e2 rfl
    subst e3
    obtain ⟨a2, c2, e4, h4⟩ := hsrc
    cases e4
    rcases h4 with e5 | ⟨_, _, e5, _⟩
    · subst e5
      refine wpList_plain hgd fun K hK => ?_
      have hrun := run_append_owned_none (P := Tryz.prog) (w := W) base S o.type _ i 1 ht hi (.slice av xs.length cv) _ _ hown
      rw [List.length_nil, hrun] at hal
      unfold Oper.wp
      simp [execOp, ho, resolve, invoke, builtin, hs, hx, hal, Result.andThen]
      exact hK _ _ (h _ W (by rw [List.append_nil]; exact hown) ⟨rfl, rfl, rfl, Nat.le_refl _, fun _ _ _ => rfl⟩)
    · cases e5
  | some ad =>
    obtain ⟨v', w', hr, h1, h2, _⟩ := run_append_own (P := Tryz.prog) W base S o.type _ i z 1 16 ht hi hz hz1 hz2 hzc (by decide) (.slice av xs.length cv) xs.length (xs.map strV) hown ad ys.length c0 (ys.map strV) (by simp) (strsAt_cells hsrc rfl) (by intro u hu; obtain ⟨y, _, rfl⟩ := List.mem_map.1 hu; rfl) hk hk2 hbase
    rw [hr] at hal
    refine wpList_plain hgd fun K hK => ?_
    unfold Oper.wp
    simp only [execOp, ho, resolve, invoke, builtin, Sem.run_bind, Sem.run_pure, Result.andThen_ok, List.map_toArray, List.map_cons, List.map_nil, hs, hx, hal]
    refine hK _ _ (h v' w' ?_ h2)
    unfold OwnG
    rw [List.length_append, List.map_append]
    exact h1
end Go.Proofs.YtkjmghnbcnbdbaaGreatDoor
