/-
  Slices of strings copied: append of a whole slice; slices.Clone at names; name.Parent, name.Wild.
-/
import Derived.Test.YtbnkecmhmcligaaMQ17
import Derived.Test.YtbnkecmhmcligaaMQ35
import Derived.Laws.AppendOwnNone
import Derived.Lib.Walk
import Derived.Lib.SliceRun
namespace Go.Proofs.Ytbnkecmhmcligaa
set_option linter.unusedVariables false
set_option linter.unusedSimpArgs false
set_option maxRecDepth 20000
open Go.RowKit Go.Shelf

/-- A slice's length is at most its capacity; nil has none. -/
def SlOK (v : Value) : Prop := ∃ a n c, v = .slice a n c ∧ n ≤ c ∧ (a = none → c = 0)
theorem SlOK.nil : SlOK (.slice none 0 0) := ⟨_, _, _, rfl, Nat.le_refl _, fun _ => rfl⟩
theorem OwnG.slOK {α : Type} {T : TypeId} {enc : α → Value} {W : World} {base : Nat} {v : Value} {xs : List α} (h : OwnG T enc W base v xs) : SlOK v := by
  rcases h.2 with ⟨e, _⟩ | ⟨g', cap, cur, e, hb, hg, hc, hm, _⟩
  · subst e; exact .nil
  · exact ⟨_, _, _, e, hc, fun q => by cases q⟩
theorem elemNm : ElemT 9 28 16 := ⟨Try.underlying28, _, _, rfl, rfl, rfl, rfl, rfl⟩
theorem strsAt_cells {W : World} {a : Option Addr} {c : Nat} {xs : Nm} (h : StrsAt W (.slice a xs.length c) xs) {ad : Addr} (ha : a = some ad) :
    ∀ j u, (xs.map strV)[j]? = some u → W.cell? (ad.add j) = some u := by
  obtain ⟨a', c', e, hx⟩ := h
  cases e
  intro j u hj
  obtain ⟨hlt, e2⟩ := List.getElem?_eq_some_iff.1 hj
  rw [List.length_map] at hlt
  rw [List.getElem_map] at e2
  rcases hx with e | ⟨g, off, rfl, _, hc⟩
  · subst e; simp at hlt
  · cases ha
    rw [← e2, Addr.add_lit]; exact hc j hlt

/-- append of a whole slice of strings to one of the call's own. -/
theorem wpl_append_s {S : TypeId} {ops : Array Oper} {rest : List Oper} {o : Oper} {a : Act} {Q : Exit → Act → World → Prop} (W : World) (hgd : o.guard = none) (s x : Operand) (hE : ElemT 9 S 16)
    (ho : o.op = .call { callee := .builtin .append, args := #[s, x], argTypes := #[S, S] })
    (base : Nat) (v : Value) (xs : Nm) (hs : a.eval s = v) (hown : OwnG 9 strV W base v xs)
    (src : Value) (ys : Nm) (hx : a.eval x = src) (hsrc : StrsAt W src ys) (hok : SlOK src)
    (hbase : base ≤ W.heap.size) (hk : xs.length + ys.length ≤ maxLen) (hk2 : (xs.length + ys.length) * 16 ≤ 140737488355328)
    (h : ∀ v' w', OwnG 9 strV w' base v' (xs ++ ys) → W.grownBy w' v.ownBlock → wpList Try.prog ops Q rest (a.put o.dst v') w') :
    wpList Try.prog ops Q (o :: rest) a W := by
  obtain ⟨ht, i, z, hi, hz, hz1, hz2, hzc⟩ := hE
  obtain ⟨a0, c0, rfl, _⟩ := id hsrc
  cases a0 with
  | none =>
    obtain ⟨a1, n1, c1, e1, _, e2⟩ := hok
    cases e1
    have e3 := e2 rfl
    subst e3
    obtain ⟨a2, c2, e4, h4⟩ := hsrc
    cases e4
    rcases h4 with e5 | ⟨_, _, e5, _⟩
    · subst e5
      refine wpList_append_own_none hgd s x S ho base _ i 1 ht hi v _ _ hs hown hx ?_
      exact h v W (by rw [List.append_nil]; exact hown) ⟨rfl, rfl, rfl, Nat.le_refl _, fun _ _ _ => rfl⟩
    · cases e5
  | some ad =>
    refine wpList_append_own _ hgd s x S ho base _ i z 1 16 ht hi hz hz1 hz2 hzc (by decide) v xs.length (xs.map strV) hs hown ad ys.length c0 (ys.map strV) hx (by simp) (strsAt_cells hsrc rfl) (by intro u hu; obtain ⟨y, _, rfl⟩ := List.mem_map.1 hu; rfl) hk hk2 hbase ?_
    intro v' w' h1 h2 _
    refine h v' w' ?_ h2
    unfold OwnG
    rw [List.length_append, List.map_append]
    exact h1

/-- Of the address of what is left: at the capacity's end the model keeps the old one. -/
theorem strs_drop {W : World} {g off c : Nat} {xs : Nm} (h : StrsAt W (.slice (some ⟨g, off, none⟩) xs.length c) xs) (hc : xs.length ≤ c) (k : Nat) (hk : k ≤ xs.length) (c' : Nat) :
    StrsAt W (.slice (if c = k then some ⟨g, off, none⟩ else some ⟨g, off + k, none⟩) (xs.length - k) c') (xs.drop k) := by
  obtain ⟨a', c', e, hx⟩ := h
  cases e
  refine ⟨_, _, by rw [List.length_drop], ?_⟩
  rcases hx with e | ⟨g, off, e, hg, hc⟩
  · subst e; simp
  · cases e
    by_cases hck : c = k
    · exact .inl (List.drop_eq_nil_of_le (by omega))
    · rw [if_neg hck]
      exact .inr ⟨_, _, rfl, hg, fun j hj => by rw [List.getElem_drop, Nat.add_assoc]; exact hc (k + j) (by simp at hj; omega)⟩
theorem drop_ok {g off c k n : Nat} (h : n ≤ c) : SlOK (.slice (if c = k then some ⟨g, off, none⟩ else some ⟨g, off + k, none⟩) (n - k) (c - k)) :=
  ⟨_, _, _, rfl, by omega, fun e => by split at e <;> cases e⟩
theorem strs_take {W : World} {a : Option Addr} {c : Nat} {xs : Nm} (h : StrsAt W (.slice a xs.length c) xs) (k : Nat) (hk : k ≤ xs.length) (c' : Nat) :
    StrsAt W (.slice a k c') (xs.take k) := by
  obtain ⟨a', c', e, hx⟩ := h
  cases e
  refine ⟨_, _, by rw [List.length_take, Nat.min_eq_left hk], ?_⟩
  rcases hx with e | ⟨g, off, rfl, hg, hc⟩
  · subst e; simp
  · exact .inr ⟨_, _, rfl, hg, fun j hj => by rw [List.getElem_take]; exact hc j (by simp at hj; omega)⟩

end Go.Proofs.Ytbnkecmhmcligaa

/-
  Contracts of name.Child and name.Swap.
-/
namespace Go.Proofs.Ytbnkecmhmcligaa
set_option linter.unusedVariables false
set_option linter.unusedSimpArgs false
set_option maxRecDepth 20000
open Go.RowKit Go.Shelf

theorem wpl_make_g {α : Type} {T S : TypeId} {enc : α → Value} {ops : Array Oper} {rest : List Oper} {o : Oper} {a : Act} {Q : Exit → Act → World → Prop} (W : World) (hgd : o.guard = none) (l c : Operand) {bytes : Nat} (hE : ElemT T S bytes)
    (ho : o.op = Op.makeSlice S l c) (base : Nat) (kl kc : IntKind) (C : Int) (n : Nat) (hl : a.eval l = .int kl 0) (hc : a.eval c = .int kc C) (hC : C = (n : Int)) (b2 : bytes * n ≤ 281474976710656) (b3 : n ≤ maxLen) (b4 : base ≤ W.heap.size)
    (h : ∀ w', OwnG T enc w' base (.slice (some ⟨W.heap.size, 0, none⟩) 0 n) [] → W.grownBy w' none → wpList Try.prog ops Q rest (a.put o.dst (.slice (some ⟨W.heap.size, 0, none⟩) 0 n)) w') :
    wpList Try.prog ops Q (o :: rest) a W := by
  obtain ⟨ht, i, z, hi, hz, hz1, hz2, _⟩ := hE
  exact wpList_make_own W hgd l c S ho base T i z 1 ht hi hz hz1 kl kc C n hl hc hC (by rw [hz2]; exact b2) b3 b4 (fun w' h1 h2 => h w' h1 h2)

def CopyPost (xs : Nm) (w : World) (e : Ending) (w' : World) : Prop := ∃ v', e = .returned v' ∧ OwnG 9 strV w' w.heap.size v' xs ∧ Below w.heap.size w w'

set_option maxHeartbeats 2000000 in
theorem name_Child (s : ByteArray) (v : Value) (xs : Nm) (w : World) (hA : StrsAt w v xs) (hO : SlOK v) (hk : NmOK xs) :
    Calls Try.prog 35 #[.string s, v] w (CopyPost (s.data.toList :: xs) w) := by
  obtain ⟨a, c, rfl, hx⟩ := id hA
  have hl := hk.1
  have hcell : [Value.string s] = [s.data.toList].map strV := by simp only [List.map_cons, List.map_nil, strV_of]
  have HC := Lib.hid hcell; clear hcell
  go_enter Try.func35, Try.ntmps35
  go_wp2_with (first | (at_make; refine wpl_make_g (α := List UInt8) (enc := strV) w rfl _ _ elemNm rfl w.heap.size .i64 .i64 _ (xs.length + 1) rfl rfl (by simp) (by omega) (by unfold maxLen; omega) (Nat.le_refl _) ?_; intro w0 hown0 hg0; have hA0 := hA.below ((Below.refl _ w).grown hg0 (Nat.le_refl _) (by simp))) | (at_builtin; refine wpl_append_g w0 rfl (.tmp 10) (.tmp 12) elemNm rfl strV_one w.heap.size (.slice (some ⟨w.heap.size, 0, none⟩) 0 (xs.length + 1)) [] rfl hown0 [.string s] [s.data.toList] HC.out 1 1 rfl rfl hg0.size (by unfold maxLen; simp) (by simp) ?_; intro v1 w1 hown1 hg1; have hB1 : Below w.heap.size w w1 := ((Below.refl _ w).grown hg0 (Nat.le_refl _) (by simp)).grown hg1 hg0.size hown0.base_le) | (at_builtin; refine wpl_append_s w1 rfl (.tmp 13) (.tmp 14) elemNm rfl w.heap.size v1 _ rfl hown1 (.slice a xs.length c) xs rfl (hA.below hB1) hO hB1.size (by unfold maxLen; simp; omega) (by simp; omega) ?_; intro v2 w2 hown2 hg2))
  go_ret
  exact ⟨v2, rfl, hown2, hB1.grown hg2 hB1.size hown1.base_le⟩

theorem OwnG.below {α : Type} {T : TypeId} {enc : α → Value} {W W' : World} {base : Nat} {v : Value} {xs : List α} (h : OwnG T enc W base v xs) (hb : Below W.heap.size W W') : OwnG T enc W' base v xs :=
  h.kept (row := none) ⟨hb.os, hb.tape, hb.output, hb.size, fun k hk _ => hb.block k hk⟩ (by cases v.ownBlock <;> simp)
def SwapPost (n f t : Nm) (w : World) (e : Ending) (w' : World) : Prop := ∃ v', e = .returned (.tuple #[v', .int .i64 (swapN n f t).2]) ∧ OwnG 9 strV w' w.heap.size v' (swapN n f t).1 ∧ Below w.heap.size w w'
theorem swap_fin {n f t : Nm} {w w' : World} {e : Ending} {v : Value} (l : Nm) (er : Int) (h : swapN n f t = (l, er)) (he : e = .returned (.tuple #[v, .int .i64 er])) (ho : OwnG 9 strV w' w.heap.size v l) (hw : Below w.heap.size w w') : SwapPost n f t w e w' := by
  unfold SwapPost; rw [h]; exact ⟨v, he, ho, hw⟩

end Go.Proofs.Ytbnkecmhmcligaa

