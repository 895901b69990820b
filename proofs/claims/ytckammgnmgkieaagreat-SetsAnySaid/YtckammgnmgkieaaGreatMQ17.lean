/-
  rset.Sets: the sets of a row in its own order. (Written by wip/tools/gensetc.py.)
-/
import Derived.Test.YtckammgnmgkieaaGreatMQ28
import Derived.Test.YtckammgnmgkieaaGreatMQ29
import Derived.Deep.Slices
import Derived.Test.YtckammgnmgkieaaGreatMQ01
import Derived.Test.YtckammgnmgkieaaGreatMQ38
import Derived.Test.YtckammgnmgkieaaGreatMQ40
import Derived.Test.YtckammgnmgkieaaGreatMQ39
import Derived.Test.YtckammgnmgkieaaGreatMQ09
import Derived.Test.YtckammgnmgkieaaGreatMQ18
import Derived.Test.YtckammgnmgkieaaGreatMQ41
import Derived.Test.YtckammgnmgkieaaGreatMQ33
import Derived.Test.YtckammgnmgkieaaGreatMQ37
import Derived.Test.YtckammgnmgkieaaGreatMQ15
import Derived.RegionTactic
import Derived.ChangeAlike
import Derived.Test.YtckammgnmgkieaaGreatMQ02
import Derived.Test.YtckammgnmgkieaaGreatMQ20
namespace Go.Proofs.YtckammgnmgkieaaGreat
set_option maxRecDepth 20000
open Go.RowKit Go.Shelf
set_option maxRecDepth 20000
set_option linter.unusedVariables false
set_option linter.unusedSimpArgs false

def SetR (W : World) (cs : List Value) (s : St) : Prop :=
  ∃ (x0 x3 : Option Addr × Nat × Nat) (ds : List (List Value)), cs = [.slice x0.1 x0.2.1 x0.2.2, .int .i64 s.ty, .int .u32 (s.ttl : Int), .slice x3.1 x3.2.1 x3.2.2] ∧ NmAt W (.slice x0.1 x0.2.1 x0.2.2) s.owner ∧
    SlK W (.slice x3.1 x3.2.1 x3.2.2) ds ∧ ds.length = s.data.length ∧ ∀ j (h1 : j < ds.length) (h2 : j < s.data.length), ds[j].length = 5 ∧ DatAt W (.agg ds[j].toArray) s.data[j]
theorem SetR.below {W W' : World} {cs : List Value} {s : St} (h : SetR W cs s) (hb : Below W.heap.size W W') : SetR W' cs s := by
  obtain ⟨x0, x3, ds, e, h1, h2, h3, h4⟩ := h
  exact ⟨x0, x3, ds, e, h1.below hb, h2.below hb, h3, fun j a b => ⟨(h4 j a b).1, (h4 j a b).2.below hb⟩⟩
def RowS (W : World) (v : Value) (l : List St) : Prop := ∃ csd, SlK W v csd ∧ csd.length = l.length ∧ ∀ j (h1 : j < csd.length) (h2 : j < l.length), SetR W csd[j] l[j]
def SetsPost (w : World) (l : List St) (e : Ending) (w' : World) : Prop := ∃ v, e = .returned v ∧ RowS w' v l ∧ Below w.heap.size w w'

theorem rset_sets (a : Option Addr) (n c : Nat) (w : World) :
    Calls Tryz.prog 61 #[.slice a n c] w fun e w' => e = .returned (.func (.func 110) #[] #[.pointer (some ⟨w.heap.size, 0, none⟩)]) ∧ w' = w.alloc (.cells #[.slice a n c] 22) := by
  go_enter Tryz.func61, Tryz.ntmps61
  go_wp2
  go_ret
  exact ⟨rfl, rfl⟩

def setC (vo : Nat → Option Addr × Nat × Nat) (rs : List Rc) {n : Nat} (x : SegD n) : List Value :=
  [.slice (vo x.1.1.1).1 (vo x.1.1.1).2.1 (vo x.1.1.1).2.2, .int .i64 (rs.getD x.1.1.1 rcZ).data.ty, .int .u32 (ttlS rs x.1.1.1 x.1.1.2 : Int), .slice x.1.2.1 (x.1.1.2 - x.1.1.1) x.1.2.2]
def SOut (N B : Nat) (css : List (List Value)) (vo : Nat → Option Addr × Nat × Nat) (rs : List Rc) {n : Nat} (pre : List (SegD n)) (W : World) : Prop :=
  ∃ v, Boxed W B 30 v ∧ OwnC 4 38 W N v (pre.map fun x => setC vo rs x) ∧ ∀ x ∈ pre, DatO N css x W
def SetI (N B : Nat) (W0 : World) (css : List (List Value)) (vo : Nat → Option Addr × Nat × Nat) (rs : List Rc) {n : Nat} (pre : List (SegD n)) (W : World) : Prop := KpX N B W0 W ∧ SOut N B css vo rs pre W
theorem DatO.keptO {N : Nat} {css : List (List Value)} {n : Nat} {x : SegD n} {W W' : World} {row : Option Nat} (h : DatO N css x W) (hg : W.grownBy W' row) (hr : ∀ r, row = some r → ∃ o : Obj, W.heap[r]? = some o ∧ o.isCells = false) : DatO N css x W' := OwnC.keptO h hg hr
theorem setI_own {N B : Nat} {W0 : World} {css : List (List Value)} {vo : Nat → Option Addr × Nat × Nat} {rs : List Rc} {n : Nat} (hB : B < N) (hn : N ≤ W0.heap.size) : OwnFrom N (SetI (n := n) N B W0 css vo rs) := by
  rintro pre W W' row ⟨h1, v, h2, h3, h4⟩ hg hr
  exact ⟨h1.trans (KpX.grown (Nat.le_trans hn h1.size) hg (fun r e => .inl (hr r e).1)), v, h2.kept hg (fun e => by have := (hr B e.symm).1; omega), OwnC.keptO h3 hg (fun r e => (hr r e).2), fun x hx => (h4 x hx).keptO hg (fun r e => (hr r e).2)⟩
theorem SOut.below {N B : Nat} {css : List (List Value)} {vo : Nat → Option Addr × Nat × Nat} {rs : List Rc} {n : Nat} {pre : List (SegD n)} {W W' : World} (h : SOut N B css vo rs pre W) (hb : Below W.heap.size W W') : SOut N B css vo rs pre W' := by
  obtain ⟨v, h2, h3, h4⟩ := h
  exact ⟨v, (hb.block B h2.lt).trans h2, OwnK.below h3 hb, fun x hx => OwnK.below (h4 x hx) hb⟩
theorem SOut.snoc {N B : Nat} {css : List (List Value)} {vo : Nat → Option Addr × Nat × Nat} {rs : List Rc} {n : Nat} {pre : List (SegD n)} {x : SegD n} {W W' : World} {v v' : Value} (h2 : Boxed W B 30 v) (h3 : OwnC 4 38 W N v (pre.map fun x => setC vo rs x)) (h4 : ∀ x ∈ pre, DatO N css x W) (hx : DatO N css x W)
    (ho : OwnC 4 38 W' N v' ((pre.map fun x => setC vo rs x) ++ [setC vo rs x])) (hg : W.grownBy W' v.ownBlock) : SOut N B css vo rs (pre ++ [x]) (W'.setCell ⟨B, 0, none⟩ v') := by
  have hne : some B ≠ v.ownBlock := OwnK.ne_block h3 h2 (by decide)
  have hB' : Boxed W' B 30 v := h2.kept hg hne
  have hk : ∀ {y : SegD n}, DatO N css y W → DatO N css y (W'.setCell ⟨B, 0, none⟩ v') := fun {y} h => OwnK.keptB (OwnK.kept2 h h3 (by decide) hg) hB' (by decide) 0 v'
  refine ⟨v', hB'.set v', OwnK.keptB (by rw [List.map_append]; exact ho) hB' (by decide) 0 v', fun y hy => ?_⟩
  rcases List.mem_append.1 hy with hy | hy
  · exact hk (h4 y hy)
  · rw [List.mem_singleton] at hy; subst hy; exact hk hx
theorem setR_of {W : World} {N m : Nat} {css : List (List Value)} {vo vn vu vt vr : Nat → Option Addr × Nat × Nat} {rs : List Rc} (hm : css.length = m) (hR : Rcs W css rs)
    (hc : ∀ k (hk : k < css.length) (hr : k < rs.length), css[k] = [.slice (vo k).1 (vo k).2.1 (vo k).2.2, .int .u32 (rs[k].ttl : Int), .int .i64 rs[k].data.ty, .slice (vn k).1 (vn k).2.1 (vn k).2.2, .slice (vu k).1 (vu k).2.1 (vu k).2.2, .slice (vt k).1 (vt k).2.1 (vt k).2.2, .slice (vr k).1 (vr k).2.1 (vr k).2.2])
    (x : SegD m) (hd : DatO N css x W) : SetR W (setC vo rs x) (setR rs x.1.1) := by
  obtain ⟨⟨⟨s, e⟩, ad, cd⟩, hx1, hx2⟩ := x
  simp only at hx1 hx2
  have hl := hR.1
  have hs : s < rs.length := by omega
  have hsc : s < css.length := by omega
  obtain ⟨j, rfl⟩ : ∃ j, e = s + j + 1 := ⟨e - s - 1, by omega⟩
  have e1 : setR rs (s, s + j + 1) = stR rs[s] ((rs.drop (s + 1)).take j) := by
    unfold setR
    simp only [List.drop_eq_getElem_cons hs]
    rw [show s + j + 1 - s - 1 = j by omega]
  have e2 : ttlS rs s (s + j + 1) = leastM rs[s].ttl ((rs.drop (s + 1)).take j) := by
    unfold ttlS
    rw [getD_rs hs, List.drop_eq_getElem_cons hs, show s + j + 1 - s = j + 1 by omega, List.take_succ_cons, leastM_first]
  show SetR W (setC vo rs ⟨((s, s + j + 1), ad, cd), hx1, hx2⟩) (setR rs (s, s + j + 1))
  rw [e1]
  unfold setC
  simp only
  rw [getD_rs hs, e2]
  have hk5 : ∀ cs ∈ dcs css s (s + j + 1), cs.length = 5 := fun cs h => by
    obtain ⟨c7, h7, rfl⟩ := List.mem_map.1 h
    rw [List.length_drop, hR.ck c7 (List.mem_of_mem_drop (List.mem_of_mem_take h7))]
  have hdl : (dcs css s (s + j + 1)).length = j + 1 := by rw [dcs_len (by omega)]; omega
  have h0 := hR.2 s hsc hs
  rw [hc s hsc hs] at h0
  obtain ⟨_, _, _, _, _, e5, n1, _⟩ := h0
  simp only [List.cons.injEq, and_true] at e5
  refine ⟨vo s, (ad, s + j + 1 - s, cd), dcs css s (s + j + 1), rfl, ?_, SlK.of_own hd hk5, ?_, fun i h1 h2 => ⟨hk5 _ (List.getElem_mem h1), ?_⟩⟩
  · rw [e5.1]; exact n1
  · rw [hdl]; simp [stR]; omega
  · have hi : i < j + 1 := by rw [hdl] at h1; exact h1
    have hc1 : s + i < css.length := by omega
    have hc2 : s + i < rs.length := by omega
    have ed : (dcs css s (s + j + 1))[i] = css[s + i].drop 2 := by
      simp only [dcs, List.getElem_map, List.getElem_take, List.getElem_drop]
    have er : (stR rs[s] ((rs.drop (s + 1)).take j)).data[i] = rs[s + i].data := by
      cases i with
      | zero => rfl
      | succ i =>
        simp only [stR, List.getElem_cons_succ, List.getElem_map, List.getElem_take, List.getElem_drop]
        congr 2; omega
    rw [ed, er]
    have hi0 := hR.2 (s + i) hc1 hc2
    obtain ⟨wo, wn, wu, wt, wr, e6, _, d1⟩ := hi0
    rw [e6]
    exact d1

end Go.Proofs.YtckammgnmgkieaaGreat

/-
  rset.Sets: the walk.
-/
namespace Go.Proofs.YtckammgnmgkieaaGreat
set_option maxRecDepth 20000
open Go.RowKit Go.Shelf
set_option maxRecDepth 20000
set_option linter.unusedVariables false
set_option linter.unusedSimpArgs false

theorem KpX.grownX {N B : Nat} {W W' : World} (hN : N = W.heap.size) (h : KpX N B W W') : W.grownBy W' (some B) := ⟨h.os, h.tape, h.output, h.size, fun k hk hne => h.block k (by omega) (fun e => hne (by rw [e]))⟩
theorem FrAt.keptX {W W' : World} {base B : Nat} {cs : List Value} {r : Rc} (h : FrAt W base cs r) (hB : B < base) (hg : W.grownBy W' (some B)) : FrAt W' base cs r := by
  obtain ⟨vo, vn, vu, vt, vr, e, h1, ⟨⟨vs, k1, k2, k3⟩, i1, i2, i3⟩⟩ := h
  have hk : ∀ {α : Type} {T : TypeId} {enc : α → Value} {v : Value} {xs : List α}, OwnG T enc W base v xs → OwnG T enc W' base v xs := fun {α T enc v xs} o => o.kept hg (.inr fun e => by have := o.base_le B e; omega)
  exact ⟨vo, vn, vu, vt, vr, e, hk h1, ⟨⟨vs, hk k1, k2, fun i a b => hk (k3 i a b)⟩, hk i1, hk i2, hk i3⟩⟩
abbrev Sl5 := (Option Addr × Nat × Nat) × (Option Addr × Nat × Nat) × (Option Addr × Nat × Nat) × (Option Addr × Nat × Nat) × (Option Addr × Nat × Nat)
theorem rcs_shapes {W : World} {css : List (List Value)} {rs : List Rc} (hR : Rcs W css rs) : ∃ vo vn vu vt vr : Nat → Option Addr × Nat × Nat, ∀ k (hk : k < css.length) (hr : k < rs.length), css[k] = [.slice (vo k).1 (vo k).2.1 (vo k).2.2, .int .u32 (rs[k].ttl : Int), .int .i64 rs[k].data.ty, .slice (vn k).1 (vn k).2.1 (vn k).2.2, .slice (vu k).1 (vu k).2.1 (vu k).2.2, .slice (vt k).1 (vt k).2.1 (vt k).2.2, .slice (vr k).1 (vr k).2.1 (vr k).2.2] := by
  obtain ⟨F, hF⟩ := Go.Deep.choose_lt (n := css.length) (α := Sl5) (p := fun k q => ∀ (hk : k < css.length) (hr : k < rs.length), css[k] = [.slice q.1.1 q.1.2.1 q.1.2.2, .int .u32 (rs[k].ttl : Int), .int .i64 rs[k].data.ty, .slice q.2.1.1 q.2.1.2.1 q.2.1.2.2, .slice q.2.2.1.1 q.2.2.1.2.1 q.2.2.1.2.2, .slice q.2.2.2.1.1 q.2.2.2.1.2.1 q.2.2.2.1.2.2, .slice q.2.2.2.2.1 q.2.2.2.2.2.1 q.2.2.2.2.2.2]) (fun k hk => by
    obtain ⟨x0, x3, x4, x5, x6, e⟩ := (hR.2 k hk (by have := hR.1; omega)).shape
    exact ⟨(x0, x3, x4, x5, x6), fun _ _ => e⟩)
  exact ⟨fun k => (F k).1, fun k => (F k).2.1, fun k => (F k).2.2.1, fun k => (F k).2.2.2.1, fun k => (F k).2.2.2.2, fun k hk hr => hF k hk hk hr⟩
theorem sets_stops (N B : Nat) (W0 : World) (a : Option Addr) (m c b1 : Nat) (css : List (List Value)) (rs : List Rc) (vo vn vu vt vr : Nat → Option Addr × Nat × Nat) (hA : SlK W0 (.slice a m c) css) (hm : css.length = m) (hmb : m ≤ 1048576) (hst : ∀ W, KpX N B W0 W → Rcs W css rs) (hOK : ∀ r ∈ rs, RcOK r)
    (hN : N = W0.heap.size) (hb1 : b1 < N) (hb1B : b1 ≠ B) (hown : ∀ b, (Value.slice a m c).ownBlock = some b → b ≠ B)
    (hc1 : Boxed W0 b1 22 (.slice a m c))
    (hc : ∀ k (hk : k < css.length) (hr : k < rs.length), css[k] = [.slice (vo k).1 (vo k).2.1 (vo k).2.2, .int .u32 (rs[k].ttl : Int), .int .i64 rs[k].data.ty, .slice (vn k).1 (vn k).2.1 (vn k).2.2, .slice (vu k).1 (vu k).2.1 (vu k).2.2, .slice (vt k).1 (vt k).2.1 (vt k).2.2, .slice (vr k).1 (vr k).2.1 (vr k).2.2]) :
    SeqStopsD Fence.wide 7 Tryz.prog 110 #[.pointer (some ⟨b1, 0, none⟩)] (setV (fun k => .slice (vo k).1 (vo k).2.1 (vo k).2.2) rs (n := m)) (DatO N css) (KpX N B) (fun xs => xs.map (·.1.1) = segsS rs) (fun xs => xs.map (·.1.1) <+: segsS rs) m W0 := by
  have hR := hst W0 (KpX.refl _ _ _)
  have hck := hR.ck
  obtain ⟨g, off, hg⟩ : ∃ g off, 0 < m → a = some ⟨g, off, none⟩ ∧ g < W0.heap.size := by
    by_cases h0 : 0 < m
    · obtain ⟨g, off, e, hl, _⟩ := hA.elem hck (by omega)
      exact ⟨g, off, fun _ => ⟨e, hl⟩⟩
    · exact ⟨0, 0, fun h => absurd h h0⟩
  have hnc : m ≤ c := by
    obtain ⟨a', c', e, h1, _⟩ := id hA
    cases e; omega
  have H : SetW b1 a g off m c css rs vo vn vu vt vr (KpX N B) (fun W => KpX N B W0 W) :=
    { c1 := fun W hK => Boxed.cell (t := 22) ((hK.block b1 hb1 hb1B).trans hc1)
      ha := fun h0 => (hg h0).1
      el := fun W hK k hlt u0 u1 u2 u3 u4 u5 u6 e => by
        have h0 : 0 < m := by omega
        obtain ⟨ea, hgl⟩ := hg h0
        have hA2 : SlK W (.slice a m c) css := by
          obtain ⟨a', c', e1, i1, i2, i3⟩ := id hA
          cases e1
          refine ⟨_, _, by rw [hm], by rw [hm]; exact hnc, i2, ?_⟩
          rcases i3 with i3 | ⟨b, o2, e2, hlt2, hcell⟩
          · exact .inl i3
          · refine .inr ⟨b, o2, e2, Nat.lt_of_lt_of_le hlt2 hK.size, fun j u hj => (World.cell?_of_block (a := ⟨b, o2 + j, none⟩) (hK.block b (by omega) (hown b (by rw [e2]; rfl)))).trans (hcell j u hj)⟩
        obtain ⟨g', off', ea', _, hel⟩ := hA2.elem hck (by omega)
        rw [ea] at ea'
        cases ea'
        exact hel k hlt u0 u1 u2 u3 u4 u5 u6 e W (Below.refl _ _)
      bel := fun W hK i j hi hj hj' tt a1 n1 c1 => by
        have hRW := hst W hK
        have hic : i < css.length := by have := hR.1; omega
        have h1 := hRW.2 i hic hi
        rw [hc i hic hi] at h1
        obtain ⟨_, _, _, _, _, e5, n1', _⟩ := h1
        simp only [List.cons.injEq, and_true] at e5
        exact rset_belongs _ _ _ a1 n1 c1 tt rs[i].owner rs[i].data.ty css[j] rs[j] W (by rw [e5.1]; exact n1') (hOK _ (List.getElem_mem hi)).1 (hRW.2 j hj hj') (hOK _ (List.getElem_mem hj'))
      below := fun W W' h hb => h.trans (KpX.of_below (by rw [hN]; exact h.size) hb)
      kp := fun W W' h k => h.trans k
      cell := hc }
  intro l J Jx W hW hJ hJx hY h0
  refine (sets1_in 7 (by omega) l b1 a g off m c hnc hmb css rs hm (by rw [← hR.1]; exact hm) vo vn vu vt vr N (KpX N B) _ H J Jx (fun pre W W' h hb => hJ pre W W' none h (grown_of_below hb) (fun _ e => by cases e)) (fun W h => by rw [hN]; exact h.size) hY W (KpX.of_below (by omega) hW) h0).mono ?_
  rintro e W' ⟨h1, h2 | ⟨pre, h3, h2⟩⟩
  · exact ⟨h1, .inl h2⟩
  · exact ⟨h1, .inr ⟨pre, h3, h2⟩⟩
theorem elem_set : ElemK 4 38 30 64 := ⟨Tryz.underlying30, _, _, rfl, rfl, rfl, rfl, rfl⟩
end Go.Proofs.YtckammgnmgkieaaGreat

/-
  rset.Sets: the walk itself.
-/
namespace Go.Proofs.YtckammgnmgkieaaGreat
set_option maxRecDepth 20000
open Go.RowKit Go.Shelf
set_option maxRecDepth 20000
set_option linter.unusedVariables false
set_option linter.unusedSimpArgs false

theorem insR_ok' {x : Rc} (hx : RcOK x) : ∀ (l : List Rc), (∀ y ∈ l, RcOK y) → ∀ y ∈ insR l x, RcOK y
  | [], _, y, hy => by
    rw [insR, List.mem_singleton] at hy; subst hy; exact hx
  | z :: r, h, y, hy => by
    have hz := h z (by simp)
    rw [insR] at hy
    split at hy
    · rcases List.mem_cons.1 hy with rfl | hy
      · exact hz
      · exact insR_ok' hx r (fun a ha => h a (by simp [ha])) y hy
    · split at hy
      · rcases List.mem_cons.1 hy with rfl | hy
        · exact ⟨hz.1, by show minT z.ttl x.ttl < _; unfold minT; split; exact hx.2.1; exact hz.2.1, hz.2.2⟩
        · exact h y (by simp [hy])
      · rcases List.mem_cons.1 hy with rfl | hy
        · exact hx
        · exact h y hy
theorem canonM_ok' (l : List Rc) : (∀ r ∈ l, RcOK r) → ∀ y ∈ canonM l, RcOK y :=
  list_snoc_ind (P := fun l => (∀ r ∈ l, RcOK r) → ∀ y ∈ canonM l, RcOK y) (fun _ y hy => by cases hy) (fun l x ih h y hy => by
    rw [canonM_snoc] at hy
    exact insR_ok' (h x (by simp)) _ (ih fun r hr => h r (by simp [hr])) y hy) l
section
attribute [local go_sem] Oper.semAt_some
set_option maxRecDepth 100000 in
set_option maxHeartbeats 16000000 in
theorem rset_Sets (v : Value) (css0 : List (List Value)) (l : List Rc) (w : World) (hA : SlK w v css0) (hR : Rcs w css0 l) (hOK : ∀ r ∈ l, RcOK r) (hl : css0.length ≤ 1048576) :
    Calls Tryz.prog 15 #[v] w (SetsPost w (setsM (canonM l))) := by
  have hb0 : Below w.heap.size w (w.alloc (.cells #[.slice none 0 0] 30)) := (Below.refl _ w).alloc (Nat.le_refl _) _
  have hC := rec_Canon v css0 l (w.alloc (.cells #[.slice none 0 0] 30)) (hA.below hb0) (hR.below hb0) hOK hl
  have HL := Lib.hid (show l.length ≤ 1048576 by have := hR.1; omega)
  have HOK := Lib.hid (canonM_ok' l hOK)
  obtain ⟨a, c, rfl, -⟩ := id hA
  obtain ⟨n0, hn0⟩ : ∃ n, css0.length = n := ⟨_, rfl⟩
  rw [hn0] at hC ⊢
  obtain ⟨L, hL⟩ : ∃ L, canonM l = L := ⟨_, rfl⟩
  have HLn := Lib.hid (show L.length ≤ 1048576 by rw [← hL]; have := canonM_length l; have := HL.out; omega)
  unfold CanonPost at hC
  rw [hL] at hC HOK ⊢
  clear hA hR hOK hl hn0 hb0 hL HL
  refine (callsIn_wide (n := 8)).1 ?_
  refine callsIn_of_wp_marks Tryz.func15 rfl trivial ?_ rfl
  simp only [Tryz.ntmps15, List.size_toArray, List.length_cons, List.length_nil, Nat.reduceAdd, Nat.reduceSub, Array.replicate_succ, Array.replicate_zero, List.push_toArray, List.append_toArray, List.nil_append, List.cons_append]
  gi_wp2_with (refine ⟨trivial, ?_⟩; gi_at_call 62; refine (callsIn_wide.2 hC).mono ?_; rintro e w1 ⟨v1, css, rfl, ho1, hl1, hf1, hb1⟩; obtain ⟨a1, c1, rfl⟩ := OwnK.shape ho1; obtain ⟨m, hm⟩ : ∃ m, css.length = m := ⟨_, rfl⟩; rw [hm] at ho1 hl1; have HO1 := Lib.hid ho1; have HL1 := Lib.hid hl1; have HF1 := Lib.hid hf1; have HB1 := Lib.hid hb1; have HM := Lib.hid hm; clear ho1 hl1 hf1 hb1 hC)
  refine ⟨trivial, ?_⟩
  refine (callsIn_wide.2 (rset_sets _ _ _ _)).mono ?_
  rintro e w2 ⟨rfl, rfl⟩
  gi_wp2
  obtain ⟨B, hB⟩ : ∃ B, w.heap.size = B := ⟨_, rfl⟩
  have hB1 : (w.alloc (.cells #[.slice none 0 0] 30)).heap.size = B + 1 := by rw [World.size_alloc, hB]
  obtain ⟨W0, hW0⟩ : ∃ W0, w1.alloc (.cells #[.slice a1 m c1] 22) = W0 := ⟨_, rfl⟩
  obtain ⟨N, hN⟩ : ∃ N, W0.heap.size = N := ⟨_, rfl⟩
  have hsz : N = w1.heap.size + 1 := by rw [← hN, ← hW0]; simp
  have hs1 : B + 1 ≤ w1.heap.size := by rw [← hB1]; exact HB1.out.size
  have hBx : Boxed w1 B 30 (.slice none 0 0) := by
    have h := Boxed.new w 30 (.slice none 0 0)
    rw [hB] at h
    exact (HB1.out.block B (by omega)).trans h
  have hw1 : Below w.heap.size w w1 := (((Below.refl _ w).alloc (Nat.le_refl _) _).trans (HB1.out.mono (by simp)))
  have hB01 : Below w1.heap.size w1 W0 := by rw [← hW0]; exact (Below.refl _ w1).alloc (Nat.le_refl _) _
  have b1 : Boxed W0 w1.heap.size 22 (.slice a1 m c1) := by rw [← hW0]; exact Boxed.new w1 _ _
  have hBx0 : Boxed W0 B 30 (.slice none 0 0) := (hB01.block B (by omega)).trans hBx
  have hw0 : Below w.heap.size w W0 := hw1.trans (hB01.mono (by omega))
  have hml : m = L.length := HL1.out
  have hmb : m ≤ 1048576 := by have := HLn.out; omega
  have hfr : ∀ j (h1 : j < css.length) (h2 : j < L.length), FrAt W0 (B + 1) css[j] L[j] := fun j h1 h2 => by
    have h := (HF1.out j h1 h2).below hB01
    rw [hB1] at h; exact h
  have hst : ∀ W, KpX N B W0 W → Rcs W css L := fun W hK => ⟨by rw [hm]; exact hml, fun i h1 h2 => ((hfr i h1 h2).keptX (by omega) (hK.grownX hN.symm)).rcAt⟩
  have hsl : SlK W0 (.slice a1 m c1) css := (SlK.of_own HO1.out (fun cs hc => by
    obtain ⟨i, hi, rfl⟩ := List.mem_iff_getElem.1 hc
    exact (HF1.out i hi (by omega)).rcAt.len)).below hB01
  have hown : ∀ b, (Value.slice a1 m c1).ownBlock = some b → b ≠ B := fun b e => by
    have := OwnK.base_le HO1.out b e
    rw [hB1] at this; omega
  obtain ⟨vo, vn, vu, vt, vr, hc⟩ := rcs_shapes (hst W0 (KpX.refl _ _ _))
  have HSEQ := Lib.hid (sets_stops N B W0 a1 m c1 w1.heap.size css L vo vn vu vt vr hsl hm hmb hst HOK.out hN.symm (by omega) (by omega) hown b1 hc)
  rw [hB, hW0]
  have HSZ := Lib.hid hsz; have HS1 := Lib.hid hs1; have HW0 := Lib.hid hw0; have HB := Lib.hid hB; have HN := Lib.hid hN; have HST := Lib.hid hst; have HMB := Lib.hid hmb; have HCC := Lib.hid hc; have HMM := Lib.hid hm
  clear hsz hs1 hw0 hBx hw1 hB01 b1 HB1 hW0 hB hN hst hmb hc hfr hsl hown hml HF1 HO1 hB1 hm
  refine wpIn_rangeFunc_D rfl (by omega) (gf := 110) (lb := #[.pointer (some ⟨w1.heap.size, 0, none⟩)]) rfl trivial (enters_of Tryz.func110 (by kernel_rfl) rfl)
    HSEQ.out (fun h k => h.trans k)
    (fun W l o o' hl h h1 h2 => ⟨rfl, rfl, rfl, by simp, fun k a b => World.putObj_heap_other (by have := HN.out; omega)⟩) (Below.refl _ _) (fun _ => rfl)
    (SetI N B W0 css vo L) (fun k pre W => False) (by rw [HN.out]; exact setI_own (by have := HSZ.out; have := HS1.out; omega) (by rw [HN.out]; omega)) (fun _ => ownFrom_pure _ _)
    ⟨KpX.refl _ _ _, .slice none 0 0, hBx0, OwnK.nil _ _, fun x h => by cases h⟩
    (fun x a' W => ∃ b, a' = { tmps := #[.slice a n0 c, undef, .slice none 0 0, .pointer (some ⟨B, 0, none⟩), .pointer (some ⟨b, 0, none⟩), .slice a n0 c, .slice a1 m c1, .func (.func 110) #[] #[.pointer (some ⟨w1.heap.size, 0, none⟩)], .agg (setC vo L x).toArray, undef, undef, undef, undef, undef], defers := [] } ∧ W0.heap.size ≤ b ∧ W.heap[b]? = some (.cells (setC vo L x).toArray 38) ∧ DatO N css x W)
    (fun a' x W W' row ⟨b, ha, hb, hx, hd⟩ hg hr => ⟨b, ha, hb, (hg.block b (kblock_lt hx) (fun e => by obtain ⟨_, o, ho, hcell⟩ := hr b e.symm; rw [hx] at ho; cases ho; cases hcell)).trans hx, hd.keptO hg (fun r e => (hr r e).2)⟩) ?assign ?body ?done ?stop
  case assign =>
    intro l pre x W K hi hd hK
    have hNW : N ≤ W.heap.size := by rw [← HN.out]; exact hi.1.size
    have hbA : ∀ o, Below W.heap.size W (W.alloc o) := fun o => (Below.refl _ W).alloc (Nat.le_refl _) o
    unfold setV
    gi_wp2
    exact hK _ _ ((KeepsOthers.of_below (hbA _)).from _) (KpX.of_below hNW (hbA _)) ⟨hi.1.trans (KpX.of_below hNW (hbA _)), hi.2.below (hbA _)⟩ ⟨W.heap.size, rfl, by rw [HN.out]; exact hNW, knew W _, OwnK.below hd (hbA _)⟩
  case body =>
    rintro l pre x a' W ⟨hK, v, h2, h3, h4⟩ ⟨b, rfl, hb, hbx, hdx⟩ hlt
    have hNW : N ≤ W.heap.size := by rw [← HN.out]; exact hK.size
    obtain ⟨ao, co, rfl⟩ := OwnK.shape h3
    obtain ⟨lp, hlp⟩ : ∃ n, (pre.map fun x => setC vo L x).length = n := ⟨_, rfl⟩
    rw [hlp] at h2 h3
    have hlp2 : lp ≤ 1048576 := by have := HMB.out; rw [← hlp, List.length_map]; omega
    have HX := Lib.hid hdx; have HK := Lib.hid hK; have H2 := Lib.hid h2; have H3 := Lib.hid h3; have H4 := Lib.hid h4; have HNW := Lib.hid hNW
    have HLP := Lib.hid hlp; have HLP2 := Lib.hid hlp2
    have hc0 := h2.cell
    obtain ⟨x0, hx0⟩ : ∃ y, y = setC vo L x := ⟨_, rfl⟩
    have hcs : ∃ p0 q0 k0 t1 t2 p3 q3 k3, setC vo L x = [.slice p0 q0 k0, .int .i64 t1, .int .u32 t2, .slice p3 q3 k3] := ⟨_, _, _, _, _, _, _, _, rfl⟩
    obtain ⟨p0, q0, k0, t1, t2, p3, q3, k3, ecs⟩ := hcs
    have HEC := Lib.hid ecs
    rw [ecs] at hbx
    have y0 := kcell hbx 0 _ rfl; have y1 := kcell hbx 1 _ rfl; have y2 := kcell hbx 2 _ rfl; have y3 := kcell hbx 3 _ rfl
    have hone : ∀ u ∈ [Value.slice p0 q0 k0, .int .i64 t1, .int .u32 t2, .slice p3 q3 k3], u.oneCell' = true := by
      intro u hu; simp only [List.mem_cons, List.not_mem_nil, or_false] at hu; rcases hu with rfl | rfl | rfl | rfl <;> rfl
    have HONE := Lib.hid hone
    rw [ecs]
    clear hbx hdx hK h2 h3 h4 hNW hlp hlp2 ecs hone hx0 hBx0 HSEQ
    gi_wp2_with (gi_at_builtin; refine wplIn_append_c W rfl (.tmp 9) (.tmp 11) elem_set (by decide) rfl N (.slice ao lp co) _ rfl H3.out [.slice p0 q0 k0, .int .i64 t1, .int .u32 t2, .slice p3 q3 k3] rfl HONE.out 1 (by simp [Act.eval]) HNW.out (by have := HLP2.out; rw [HLP.out]; unfold maxLen; omega) (by have := HLP2.out; rw [HLP.out]; omega) ?_; intro v6 w6 hown6 hg6; obtain ⟨a9, c9, e9⟩ := OwnK.shape hown6; generalize List.length _ = ln at e9; subst e9; have hne6 : some B ≠ (Value.slice ao lp co).ownBlock := OwnK.ne_block H3.out H2.out (by decide); have hBx6 := H2.out.kept hg6 hne6; have c6 := hBx6.cell; have f6 := hBx6.frozen; have HOW6 := Lib.hid hown6; have HG6 := Lib.hid hg6; clear hown6 hg6 hBx6 hne6)
    have hK6 : KpX N B W (w6.setCell ⟨B, 0, none⟩ (.slice a9 ln c9)) :=
      (KpX.grown HNW.out HG6.out (fun r e => .inl (OwnK.base_le H3.out r e))).trans (KpX.grown (Nat.le_trans HNW.out HG6.out.size) (grownBy_set w6 B 0 _) (fun r e => by cases e; exact .inr rfl))
    have hko : KeepsOthers W (w6.setCell ⟨B, 0, none⟩ (.slice a9 ln c9)) := (KeepsOthers.grown_c H3.out HG6.out).trans (KeepsOthers.setCell _ _ _)
    refine ⟨hko.from _, hK6, HK.out.trans hK6, SOut.snoc H2.out H3.out H4.out HX.out ?_ HG6.out⟩
    rw [HEC.out]; exact HOW6.out
  case done =>
    rintro d xs W hd hxs ⟨hK, v, h2, h3, h4⟩ hD0
    have hc := h2.cell
    have HXS := Lib.hid hxs; have HK := Lib.hid hK; have H2 := Lib.hid h2; have H3 := Lib.hid h3; have H4 := Lib.hid h4; have HD := Lib.hid hd
    clear hxs hK h3 h4 hd h2
    gi_wp2
    refine ⟨by simp, .inl ⟨_, _, rfl, run_takeDeferred hD0, ?_⟩⟩
    refine ⟨_, results_tmp rfl _ _ _, ?_⟩
    have hr : ∀ r, some d = some r → ∃ o : Obj, W.heap[r]? = some o ∧ o.isCells = false := fun r e => by cases e; exact ⟨_, hD0, rfl⟩
    have hDN : N ≤ d := by have := HD.out; rw [HN.out] at this; exact this
    have hwN : w.heap.size ≤ N := by have := HN.out; have := HW0.out.size; omega
    have hg := grownBy_putObj' W d (.deferred none)
    have hK2 : KpX N B W0 (W.putObj d (.deferred none)) := HK.out.trans (KpX.grown (by rw [← HN.out]; exact HK.out.size) hg (fun r e => by cases e; exact .inl hDN))
    have hlen : xs.length = (setsM L).length := by rw [← segs_sets, List.length_map, ← HXS.out, List.length_map]
    refine ⟨v, rfl, ⟨xs.map (fun x => setC vo L x), SlK.of_own (OwnC.keptO H3.out hg hr) (fun cs hc => by obtain ⟨x, _, rfl⟩ := List.mem_map.1 hc; rfl), by rw [List.length_map]; exact hlen, fun j h1 h2 => ?_⟩, ?_⟩
    · rw [List.length_map] at h1
      have e : (setsM L)[j] = setR L xs[j].1.1 := by
        have h5 : (setsM L)[j]? = ((segsS L).map (setR L))[j]? := by rw [segs_sets]
        rw [List.getElem?_eq_getElem h2, ← HXS.out, List.map_map, List.getElem?_map, List.getElem?_eq_getElem h1] at h5
        simpa using h5
      rw [e, List.getElem_map]
      exact setR_of HMM.out (HST.out _ hK2) HCC.out xs[j] ((H4.out _ (List.getElem_mem h1)).keptO hg hr)
    · exact below_putO (HW0.out.trans (HK.out.below (by have := HB.out; omega) hwN)) (by omega) (Nat.le_refl _)
  case stop =>
    rintro d c3 pre W hd hp hF hK
    exact hF.elim
end
end Go.Proofs.YtckammgnmgkieaaGreat

/-
  rset.Equal; the cells of rows of data and of sets. (Written by wip/tools/gensetf.py.)
-/
namespace Go.Proofs.YtckammgnmgkieaaGreat
set_option maxRecDepth 20000
open Go.RowKit Go.Shelf
set_option maxRecDepth 20000
set_option linter.unusedVariables false
set_option linter.unusedSimpArgs false

theorem SlK.elem5 {W : World} {a : Option Addr} {n c : Nat} {css : List (List Value)} (h : SlK W (.slice a n c) css) (hk : ∀ cs ∈ css, cs.length = 5) (h0 : 0 < css.length) : ∃ b off, a = some ⟨b, off, none⟩ ∧ b < W.heap.size ∧
    ∀ k (hlt : k < css.length) (u0 u1 u2 u3 u4 : Value), css[k] = [u0, u1, u2, u3, u4] → ∀ W', Below W.heap.size W W' →
      W'.cell? ⟨b, off + k * 5, none⟩ = some u0 ∧ W'.cell? ⟨b, off + k * 5 + 1, none⟩ = some u1 ∧ W'.cell? ⟨b, off + k * 5 + 2, none⟩ = some u2 ∧ W'.cell? ⟨b, off + k * 5 + 3, none⟩ = some u3 ∧ W'.cell? ⟨b, off + k * 5 + 4, none⟩ = some u4 := by
  obtain ⟨a', c', e, _, _, h3⟩ := h
  cases e
  rcases h3 with h3 | ⟨b, off, rfl, hb, hc⟩
  · subst h3; simp at h0
  · refine ⟨b, off, rfl, hb, fun k hlt u0 u1 u2 u3 u4 he W' hB => ?_⟩
    have key : ∀ j u, j < 5 → [u0, u1, u2, u3, u4][j]? = some u → W'.cell? ⟨b, off + k * 5 + j, none⟩ = some u := fun j u hj hu => by
      rw [hB.cell (p := ⟨b, off + k * 5 + j, none⟩) hb, Nat.add_assoc]
      refine hc (k * 5 + j) u ?_
      have hl : ∀ (l : List (List Value)) (k : Nat) (hlt : k < l.length), (∀ cs ∈ l, cs.length = 5) → l[k] = [u0, u1, u2, u3, u4] → l.flatten[k * 5 + j]? = some u := by
        intro l
        induction l with
        | nil => intro k hlt; simp at hlt
        | cons x r ih =>
          intro k hlt hk he
          rw [List.flatten_cons]
          cases k with
          | zero =>
            rw [List.getElem_cons_zero] at he
            rw [he, List.getElem?_append_left (by simp; omega)]
            simpa using hu
          | succ k =>
            rw [List.getElem_cons_succ] at he
            have hx : x.length = 5 := hk x (by simp)
            rw [List.getElem?_append_right (by rw [hx]; omega), hx, show (k + 1) * 5 + j - 5 = k * 5 + j by omega]
            exact ih k (by simpa using hlt) (fun cs hc => hk cs (by simp [hc])) he
      exact hl css k hlt hk he
    exact ⟨key 0 u0 (by omega) rfl, key 1 u1 (by omega) rfl, key 2 u2 (by omega) rfl, key 3 u3 (by omega) rfl, key 4 u4 (by omega) rfl⟩

theorem SlK.elem4 {W : World} {a : Option Addr} {n c : Nat} {css : List (List Value)} (h : SlK W (.slice a n c) css) (hk : ∀ cs ∈ css, cs.length = 4) (h0 : 0 < css.length) : ∃ b off, a = some ⟨b, off, none⟩ ∧ b < W.heap.size ∧
    ∀ k (hlt : k < css.length) (u0 u1 u2 u3 : Value), css[k] = [u0, u1, u2, u3] → ∀ W', Below W.heap.size W W' →
      W'.cell? ⟨b, off + k * 4, none⟩ = some u0 ∧ W'.cell? ⟨b, off + k * 4 + 1, none⟩ = some u1 ∧ W'.cell? ⟨b, off + k * 4 + 2, none⟩ = some u2 ∧ W'.cell? ⟨b, off + k * 4 + 3, none⟩ = some u3 := by
  obtain ⟨a', c', e, _, _, h3⟩ := h
  cases e
  rcases h3 with h3 | ⟨b, off, rfl, hb, hc⟩
  · subst h3; simp at h0
  · refine ⟨b, off, rfl, hb, fun k hlt u0 u1 u2 u3 he W' hB => ?_⟩
    have key : ∀ j u, j < 4 → [u0, u1, u2, u3][j]? = some u → W'.cell? ⟨b, off + k * 4 + j, none⟩ = some u := fun j u hj hu => by
      rw [hB.cell (p := ⟨b, off + k * 4 + j, none⟩) hb, Nat.add_assoc]
      refine hc (k * 4 + j) u ?_
      have hl : ∀ (l : List (List Value)) (k : Nat) (hlt : k < l.length), (∀ cs ∈ l, cs.length = 4) → l[k] = [u0, u1, u2, u3] → l.flatten[k * 4 + j]? = some u := by
        intro l
        induction l with
        | nil => intro k hlt; simp at hlt
        | cons x r ih =>
          intro k hlt hk he
          rw [List.flatten_cons]
          cases k with
          | zero =>
            rw [List.getElem_cons_zero] at he
            rw [he, List.getElem?_append_left (by simp; omega)]
            simpa using hu
          | succ k =>
            rw [List.getElem_cons_succ] at he
            have hx : x.length = 4 := hk x (by simp)
            rw [List.getElem?_append_right (by rw [hx]; omega), hx, show (k + 1) * 4 + j - 4 = k * 4 + j by omega]
            exact ih k (by simpa using hlt) (fun cs hc => hk cs (by simp [hc])) he
      exact hl css k hlt hk he
    exact ⟨key 0 u0 (by omega) rfl, key 1 u1 (by omega) rfl, key 2 u2 (by omega) rfl, key 3 u3 (by omega) rfl⟩

def Dts (W : World) (css : List (List Value)) (ds : List Dat) : Prop := css.length = ds.length ∧ ∀ i (h1 : i < css.length) (h2 : i < ds.length), css[i].length = 5 ∧ DatAt W (.agg css[i].toArray) ds[i]
theorem Dts.below {W W' : World} {css : List (List Value)} {ds : List Dat} (h : Dts W css ds) (hb : Below W.heap.size W W') : Dts W' css ds := ⟨h.1, fun i h1 h2 => ⟨(h.2 i h1 h2).1, (h.2 i h1 h2).2.below hb⟩⟩
theorem Dts.ck {W : World} {css : List (List Value)} {ds : List Dat} (h : Dts W css ds) : ∀ cs ∈ css, cs.length = 5 := fun cs hc => by
  obtain ⟨i, hi, rfl⟩ := List.mem_iff_getElem.1 hc
  exact (h.2 i hi (by have := h.1; omega)).1
theorem dt_shape {W : World} {cs : List Value} {d : Dat} (h : DatAt W (.agg cs.toArray) d) : ∃ x3 x4 x5 x6 : Option Addr × Nat × Nat, cs = [.int .i64 d.ty, .slice x3.1 x3.2.1 x3.2.2, .slice x4.1 x4.2.1 x4.2.2, .slice x5.1 x5.2.1 x5.2.2, .slice x6.1 x6.2.1 x6.2.2] := by
  obtain ⟨un, uu, ut, ur, e, ⟨vs, g1, _⟩, g2, g3, g4⟩ := h
  have e' : cs = [Value.int .i64 d.ty, un, uu, ut, ur] := by
    have : cs.toArray = #[Value.int .i64 d.ty, un, uu, ut, ur] := by injection e
    exact congrArg Array.toList this
  obtain ⟨a3, c3, rfl, _⟩ := g1
  obtain ⟨a4, c4, rfl, _⟩ := g2
  obtain ⟨a5, c5, rfl, _⟩ := nmAt_sl.1 g3
  obtain ⟨a6, c6, rfl, _⟩ := g4
  exact ⟨(a3, _, c3), (a4, _, c4), (a5, _, c5), (a6, _, c6), e'⟩
def sameDsM : List Dat → List Dat → Bool
  | [], [] => true
  | x :: r, y :: t => (compareD x y == 0) && sameDsM r t
  | _, _ => false
theorem sameDsM_len : ∀ (l m : List Dat), l.length ≠ m.length → sameDsM l m = false
  | [], [], h => absurd rfl h
  | [], _ :: _, _ => rfl
  | _ :: _, [], _ => rfl
  | x :: r, y :: t, h => by
    have := sameDsM_len r t (by simpa using h)
    simp [sameDsM, this]
theorem sameDsM_step {l m : List Dat} (k : Nat) (h1 : k < l.length) (h2 : k < m.length) : sameDsM (l.drop k) (m.drop k) = ((compareD l[k] m[k] == 0) && sameDsM (l.drop (k + 1)) (m.drop (k + 1))) := by
  rw [List.drop_eq_getElem_cons h1, List.drop_eq_getElem_cons h2]; rfl
theorem sameDsM_self : ∀ l, sameDsM l l = true
  | [] => rfl
  | x :: r => by
    have := cord_compareD.anti x x
    simp [sameDsM, sameDsM_self r, show compareD x x = 0 by omega]
set_option maxRecDepth 100000 in
set_option maxHeartbeats 8000000 in
theorem dat_equal (v u : Value) (css ess : List (List Value)) (l m : List Dat) (w : World) (hA : SlK w v css) (hR : Dts w css l) (hU : SlK w u ess) (hS : Dts w ess m) (hOK : ∀ r ∈ l, DatOK r) (hOK2 : ∀ r ∈ m, DatOK r) (hl : css.length ≤ 1048576) (hl2 : ess.length ≤ 1048576) :
    Calls Tryz.prog 108 #[v, u, .func (.func 109) #[] #[]] w fun e w' => e = .returned (.bool (sameDsM l m)) ∧ Below w.heap.size w w' := by
  obtain ⟨a, c, rfl, hc1, hc2, hx⟩ := id hA
  obtain ⟨b, d, rfl, hd1, hd2, hy⟩ := id hU
  obtain ⟨n, hn⟩ : ∃ n, css.length = n := ⟨_, rfl⟩
  obtain ⟨n2, hn2⟩ : ∃ n, ess.length = n := ⟨_, rfl⟩
  have HSA := Lib.hid hA; have HSU := Lib.hid hU; have HR := Lib.hid hR; have HS := Lib.hid hS; have HOK := Lib.hid hOK; have HOK2 := Lib.hid hOK2
  rw [hn] at HSA hc1 hl ⊢
  rw [hn2] at HSU hd1 hl2 ⊢
  have HN := Lib.hid hn; have HN2 := Lib.hid hn2
  have HLA := Lib.hid (show l.length = n by rw [← hn]; exact hR.1.symm)
  have HLB := Lib.hid (show m.length = n2 by rw [← hn2]; exact hS.1.symm)
  obtain ⟨res, hres⟩ : ∃ r, sameDsM l m = r := ⟨_, rfl⟩
  rw [hres]
  have HRES := Lib.hid hres
  clear hA hU hR hS hOK hOK2 hc2 hx hd2 hy hn hn2 hres
  by_cases hnn : n = n2
  · subst hnn
    have HB0 : Hid (Below w.heap.size w w) := Lib.hid (Below.refl _ _)
    go_enter Tryz.func108, Tryz.ntmps108
    go_wp2
    go_loopw [17] (fun vi wr => ∃ (k : Nat), vi = .int .i64 k ∧ k ≤ n ∧ Hid (res = sameDsM (l.drop k) (m.drop k)) ∧ Hid (Below w.heap.size w wr)) (fun vi _ => n - (intOf vi).toNat)
    case atStart => exact ⟨0, rfl, Nat.zero_le _, Lib.hid HRES.out.symm, HB0⟩
    case round =>
      obtain ⟨k, rfl, hk, HC, HB⟩ := hrel
      by_cases hlt : k < n
      · have hltz : (k : Int) < (n : Int) := by omega
        have hk1 : k < css.length := by have := HN.out; omega
        have hk2 : k < ess.length := by have := HN2.out; omega
        have hk3 : k < l.length := by have := HLA.out; omega
        have hk4 : k < m.length := by have := HLB.out; omega
        obtain ⟨ga, oa, rfl, hga, hea⟩ := HSA.out.elem5 HR.out.ck (by omega)
        obtain ⟨gb, ob, rfl, hgb, heb⟩ := HSU.out.elem5 HS.out.ck (by omega)
        have h0 := (HR.out.2 k hk1 hk3).2
        have h1 := (HS.out.2 k hk2 hk4).2
        have hok := HOK.out _ (List.getElem_mem hk3)
        have hok2 := HOK2.out _ (List.getElem_mem hk4)
        have hst := sameDsM_step k hk3 hk4
        obtain ⟨ra, hra⟩ : ∃ r, l[k]'hk3 = r := ⟨_, rfl⟩
        obtain ⟨rb, hrb⟩ : ∃ r, m[k]'hk4 = r := ⟨_, rfl⟩
        rw [hra] at h0 hok hst
        rw [hrb] at h1 hok2 hst
        clear hra hrb
        have htw := fun W (hb : Below w.heap.size w W) => rdata_Same _ _ _ _ W (h0.below hb) (h1.below hb) hok hok2
        obtain ⟨⟨p3, q3, r3⟩, ⟨p4, q4, r4⟩, ⟨p5, q5, r5⟩, ⟨p6, q6, r6⟩, e0⟩ := dt_shape h0
        obtain ⟨⟨p3', q3', r3'⟩, ⟨p4', q4', r4'⟩, ⟨p5', q5', r5'⟩, ⟨p6', q6', r6'⟩, e1⟩ := dt_shape h1
        simp only at e0 e1
        obtain ⟨c0, c1, c2, c3, c4⟩ := hea k hk1 _ _ _ _ _ e0 wr HB.out
        obtain ⟨d0, d1, d2, d3, d4⟩ := heb k hk2 _ _ _ _ _ e1 (wr.alloc (.cells #[.int .i64 ra.ty, .slice p3 q3 r3, .slice p4 q4 r4, .slice p5 q5 r5, .slice p6 q6 r6] 101)) (HB.out.alloc HB.out.size _)
        rw [e0, e1] at htw
        obtain ⟨tw, htw'⟩ : ∃ t, (compareD ra rb == 0) = t := ⟨_, rfl⟩
        rw [htw'] at htw hst
        have HTW := Lib.hid htw
        have HST := Lib.hid hst
        clear h0 h1 hok hok2 htw hst e0 e1 htw' hea heb hk1 hk2 hk3 hk4
        go_wp2_with fail
        have HBW := Lib.hid ((HB.out.alloc HB.out.size (.cells #[.int .i64 ra.ty, .slice p3 q3 r3, .slice p4 q4 r4, .slice p5 q5 r5, .slice p6 q6 r6] 101)).alloc (by have := HB.out.size; simp; omega) (.cells #[.int .i64 rb.ty, .slice p3' q3' r3', .slice p4' q4' r4', .slice p5' q5' r5', .slice p6' q6' r6'] 101))
        refine (HTW.out _ HBW.out).mono ?_
        rintro e w2 ⟨rfl, hb2⟩
        have HB2 := Lib.hid (HBW.out.trans (hb2.mono HBW.out.size))
        have HC2 : Hid (res = (tw && sameDsM (l.drop (k + 1)) (m.drop (k + 1)))) := Lib.hid (by rw [HC.out, HST.out])
        clear hb2 HC HST HTW HBW HB c0 c1 c2 c3 c4 d0 d1 d2 d3 d4
        cases tw
        · have HE : Hid (res = false) := Lib.hid (by rw [HC2.out]; rfl)
          clear HC2
          go_wp2
          go_ret
          exact ⟨by rw [HE.out]; rfl, HB2.out⟩
        · have HE : Hid (res = sameDsM (l.drop (k + 1)) (m.drop (k + 1))) := Lib.hid (by rw [HC2.out]; rfl)
          clear HC2
          go_wp2
          go_roundw
          case measure => simp [intOf]; omega
          case rel => exact ⟨k + 1, by go_num, by omega, HE, HB2⟩
      · obtain rfl : k = n := by omega
        have HE : Hid (res = true) := Lib.hid (by
          rw [HC.out, List.drop_of_length_le (by have := HLA.out; omega), List.drop_of_length_le (by have := HLB.out; omega)]; rfl)
        clear HC
        go_wp2
        go_ret
        exact ⟨by rw [HE.out]; rfl, HB.out⟩
  · have hz : ¬ (n : Int) = (n2 : Int) := by omega
    have hzb : ((n : Int) != (n2 : Int)) = true := by simpa using hz
    have HE : Hid (res = false) := Lib.hid (by rw [← HRES.out]; exact sameDsM_len _ _ (by have := HLA.out; have := HLB.out; omega))
    go_enter Tryz.func108, Tryz.ntmps108
    go_wp2
    go_ret
    exact ⟨by rw [HE.out]; rfl, Below.refl _ _⟩

set_option maxRecDepth 100000 in
set_option maxHeartbeats 4000000 in
theorem rset_Equal (a0 : Option Addr) (n0 c0 : Nat) (y1 t1 : Int) (v : Option Addr × Nat × Nat) (b0 : Option Addr) (m0 d0 : Nat) (y2 t2 : Int) (u : Option Addr × Nat × Nat) (css ess : List (List Value)) (l m : List Dat) (w : World) (hA : SlK w (.slice v.1 v.2.1 v.2.2) css) (hR : Dts w css l) (hU : SlK w (.slice u.1 u.2.1 u.2.2) ess) (hS : Dts w ess m) (hOK : ∀ r ∈ l, DatOK r) (hOK2 : ∀ r ∈ m, DatOK r) (hl : css.length ≤ 1048576) (hl2 : ess.length ≤ 1048576) :
    Calls Tryz.prog 58 #[.agg #[.slice a0 n0 c0, .int .i64 y1, .int .u32 t1, .slice v.1 v.2.1 v.2.2], .agg #[.slice b0 m0 d0, .int .i64 y2, .int .u32 t2, .slice u.1 u.2.1 u.2.2]] w fun e w' => e = .returned (.bool (sameDsM l m)) ∧ Below w.heap.size w w' := by
  obtain ⟨v1, v2, v3⟩ := v
  obtain ⟨u1, u2, u3⟩ := u
  have hb : Below w.heap.size w ((w.alloc (.cells #[.slice a0 n0 c0, .int .i64 y1, .int .u32 t1, .slice v1 v2 v3] 38)).alloc (.cells #[.slice b0 m0 d0, .int .i64 y2, .int .u32 t2, .slice u1 u2 u3] 38)) := ((Below.refl _ w).alloc (Nat.le_refl _) _).alloc (by simp) _
  have hc := dat_equal _ _ css ess l m _ (hA.below hb) (hR.below hb) (hU.below hb) (hS.below hb) hOK hOK2 hl hl2
  have HB := Lib.hid hb
  clear hA hR hU hS hOK hOK2 hl hl2 hb
  go_enter Tryz.func58, Tryz.ntmps58
  go_wp2_with fail
  refine hc.mono ?_
  rintro e w1 ⟨rfl, hb1⟩
  go_wp2
  go_ret
  exact ⟨rfl, HB.out.trans (hb1.mono HB.out.size)⟩
end Go.Proofs.YtckammgnmgkieaaGreat

/-
  The document's CheckRec, CompareRec, SameRec. (Written by wip/tools/genref5.py.)
-/
namespace Go.Proofs.YtckammgnmgkieaaGreat
set_option maxRecDepth 20000
open Go.RowKit Go.Shelf
set_option maxRecDepth 20000
set_option linter.unusedVariables false
set_option linter.unusedSimpArgs false

set_option maxRecDepth 100000 in
set_option maxHeartbeats 4000000 in
theorem ref_CompareRec (cs cs' : List Value) (a b : Rc) (w : World) (hA : RcAt w cs a) (hU : RcAt w cs' b) (hk : RcOK a) (hk2 : RcOK b) :
    Calls Tryz.prog 119 #[.agg cs.toArray, .agg cs'.toArray] w fun e w' => e = .returned (.int .i64 (compareR a b)) ∧ Below w.heap.size w w' := by
  obtain ⟨vo, vn, vu, vt, vr, rfl, a1, a2⟩ := hA
  obtain ⟨uo, un, uu, ut, ur, rfl, b1, b2⟩ := hU
  have hb0 := fun o o' => ((Below.refl w.heap.size w).alloc (Nat.le_refl _) o).alloc (o := o') (by simp)
  have HN := Lib.hid (fun W (hb : Below w.heap.size w W) => kn_RCompare vo uo a.owner b.owner _ rfl W (a1.below hb) (b1.below hb) hk.1 hk2.1)
  have HD := Lib.hid (fun W (hb : Below w.heap.size w W) => ref_CompareData _ _ a.data b.data W (a2.below hb) (b2.below hb) hk.2.2 hk2.2.2)
  have hR := Lib.hid (show compareR a b = orI (compareN a.owner b.owner) (compareD a.data b.data) from rfl)
  generalize compareR a b = r at *
  generalize compareN a.owner b.owner = q at *
  generalize compareD a.data b.data = q2 at *
  generalize a.data.ty = x at *
  generalize b.data.ty = y at *
  generalize (a.ttl : Int) = ta at *
  generalize (b.ttl : Int) = tb at *
  obtain ⟨O1, hO1⟩ : ∃ O, O = Obj.cells #[vo, .int .u32 ta, .int .i64 x, vn, vu, vt, vr] 109 := ⟨_, rfl⟩
  obtain ⟨O2, hO2⟩ : ∃ O, O = Obj.cells #[uo, .int .u32 tb, .int .i64 y, un, uu, ut, ur] 109 := ⟨_, rfl⟩
  have hbb := hb0 O1 O2
  have HBB := Lib.hid hbb
  have hn := HN.out _ hbb
  have k1 : ((w.alloc O1).alloc O2).heap[w.heap.size]? = some O1 := (Below.heap_alloc (w.alloc O1) O2 w.heap.size (by simp)).trans (knew w O1)
  have k2 : ((w.alloc O1).alloc O2).heap[w.heap.size + 1]? = some O2 := by have := knew (w.alloc O1) O2; simpa using this
  rw [hO1] at k1 k2 hn HBB
  rw [hO2] at k1 k2 hn HBB
  have K1 := Lib.hid k1; have K2 := Lib.hid k2
  clear k1 k2 hbb hb0 a1 a2 b1 b2 hk hk2 hO1 hO2
  by_cases hq : q = 0
  · subst hq
    have HR : Hid (r = q2) := Lib.hid (by rw [hR.out]; rfl)
    clear hR
    go_enter Tryz.func119, Tryz.ntmps119
    go_wp2_with fail
    refine hn.mono ?_
    rintro e w1 ⟨rfl, hb1⟩
    have HB1 := Lib.hid (HBB.out.trans (hb1.mono HBB.out.size))
    have c1 := (hb1.block _ (kblock_lt K1.out)).trans K1.out
    have c2 := (hb1.block _ (kblock_lt K2.out)).trans K2.out
    have p2 := kcell c1 2 _ rfl; have p3 := kcell c1 3 _ rfl; have p4 := kcell c1 4 _ rfl; have p5 := kcell c1 5 _ rfl; have p6 := kcell c1 6 _ rfl
    have r2 := kcell c2 2 _ rfl; have r3 := kcell c2 3 _ rfl; have r4 := kcell c2 4 _ rfl; have r5 := kcell c2 5 _ rfl; have r6 := kcell c2 6 _ rfl
    clear hb1 c1 c2 hn
    have hd := HD.out w1 HB1.out
    go_wp2_with fail
    refine hd.mono ?_
    rintro e w2 ⟨rfl, hb2⟩
    go_wp2
    go_ret
    exact ⟨by rw [HR.out]; rfl, HB1.out.trans (hb2.mono HB1.out.size)⟩
  · have HR : Hid (r = q) := Lib.hid (by rw [hR.out]; unfold orI; rw [if_neg hq])
    have hqz : (q == 0) = false := by simpa using hq
    have hqn : (q != 0) = true := by simpa using hq
    clear hR
    go_enter Tryz.func119, Tryz.ntmps119
    go_wp2_with fail
    refine hn.mono ?_
    rintro e w1 ⟨rfl, hb1⟩
    have HB1 := Lib.hid (HBB.out.trans (hb1.mono HBB.out.size))
    clear hb1 hn
    go_wp2
    go_ret
    exact ⟨by rw [HR.out]; rfl, HB1.out⟩

set_option maxRecDepth 100000 in
set_option maxHeartbeats 4000000 in
theorem ref_SameRec (cs cs' : List Value) (a b : Rc) (w : World) (hA : RcAt w cs a) (hU : RcAt w cs' b) (hk : RcOK a) (hk2 : RcOK b) :
    Calls Tryz.prog 120 #[.agg cs.toArray, .agg cs'.toArray] w fun e w' => e = .returned (.bool (sameR a b)) ∧ Below w.heap.size w w' := by
  have HS := Lib.hid (fun W (hb : Below w.heap.size w W) => ref_CompareRec cs cs' a b W (hA.below hb) (hU.below hb) hk hk2)
  obtain ⟨vo, vn, vu, vt, vr, rfl, -⟩ := hA
  obtain ⟨uo, un, uu, ut, ur, rfl, -⟩ := hU
  have hR := Lib.hid (show sameR a b = (compareR a b == 0) from rfl)
  generalize sameR a b = res at *
  generalize compareR a b = q at *
  generalize a.data.ty = x at *
  generalize b.data.ty = y at *
  generalize (a.ttl : Int) = ta at *
  generalize (b.ttl : Int) = tb at *
  obtain ⟨O1, hO1⟩ : ∃ O, O = Obj.cells #[vo, .int .u32 ta, .int .i64 x, vn, vu, vt, vr] 109 := ⟨_, rfl⟩
  obtain ⟨O2, hO2⟩ : ∃ O, O = Obj.cells #[uo, .int .u32 tb, .int .i64 y, un, uu, ut, ur] 109 := ⟨_, rfl⟩
  have hbb := ((Below.refl w.heap.size w).alloc (Nat.le_refl _) O1).alloc (o := O2) (by simp)
  have HBB := Lib.hid hbb
  have hn := HS.out _ hbb
  rw [hO1, hO2] at hn HBB
  clear hbb hk hk2 hO1 hO2 HS
  go_enter Tryz.func120, Tryz.ntmps120
  go_wp2_with fail
  refine hn.mono ?_
  rintro e w1 ⟨rfl, hb1⟩
  have HB1 := Lib.hid (HBB.out.trans (hb1.mono HBB.out.size))
  clear hb1 hn
  go_wp2
  go_ret
  exact ⟨by rw [hR.out]; rfl, HB1.out⟩
end Go.Proofs.YtckammgnmgkieaaGreat

