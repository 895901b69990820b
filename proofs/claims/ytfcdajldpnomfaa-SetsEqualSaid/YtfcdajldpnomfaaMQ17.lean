/-
  rset.Sets: the sets of a row in its own order. (Written by wip/tools/gensetc.py.)
-/
import Derived.Test.YtfcdajldpnomfaaMQ02
import Derived.Test.YtfcdajldpnomfaaMQ25
import Derived.Deep.Slices
import Derived.Test.YtfcdajldpnomfaaMQ01
import Derived.Test.YtfcdajldpnomfaaMQ34
import Derived.Test.YtfcdajldpnomfaaMQ39
import Derived.Test.YtfcdajldpnomfaaMQ14
import Derived.ProofKit
import Derived.OpenShut
import Derived.ShutString
import Derived.ChangeArms
import Derived.ChangeSlices
import Derived.SliceStrings
import Derived.Shelf.Vars
import Derived.Handed
import Derived.HandedShaped
namespace Go.Proofs.Ytfcdajldpnomfaa
open Go.RowKit Go.Shelf
set_option maxRecDepth 20000
set_option linter.unusedVariables false
set_option linter.unusedSimpArgs false

/-- A set in memory. -/
def SetR (W : World) (cs : List Value) (s : St) : Prop :=
  ∃ (x0 x3 : Option Addr × Nat × Nat) (ds : List (List Value)), cs = [.slice x0.1 x0.2.1 x0.2.2, .int .i64 s.ty, .int .u32 (s.ttl : Int), .slice x3.1 x3.2.1 x3.2.2] ∧ NmAt W (.slice x0.1 x0.2.1 x0.2.2) s.owner ∧
    SlK W (.slice x3.1 x3.2.1 x3.2.2) ds ∧ ds.length = s.data.length ∧ ∀ j (h1 : j < ds.length) (h2 : j < s.data.length), ds[j].length = 5 ∧ DatAt W (.agg ds[j].toArray) s.data[j]
theorem SetR.below {W W' : World} {cs : List Value} {s : St} (h : SetR W cs s) (hb : Below W.heap.size W W') : SetR W' cs s := by
  obtain ⟨x0, x3, ds, e, h1, h2, h3, h4⟩ := h
  exact ⟨x0, x3, ds, e, h1.below hb, h2.below hb, h3, fun j a b => ⟨(h4 j a b).1, (h4 j a b).2.below hb⟩⟩
/-- A row of sets. -/
def RowS (W : World) (v : Value) (l : List St) : Prop := ∃ csd, SlK W v csd ∧ csd.length = l.length ∧ ∀ j (h1 : j < csd.length) (h2 : j < l.length), SetR W csd[j] l[j]
def SetsPost (w : World) (l : List St) (e : Ending) (w' : World) : Prop := ∃ v, e = .returned v ∧ RowS w' v l ∧ Below w.heap.size w w'

theorem rset_sets (a : Option Addr) (n c : Nat) (w : World) :
    Calls Try.prog 21 #[.slice a n c] w fun e w' => e = .returned (.func (.func 36) #[] #[.pointer (some ⟨w.heap.size, 0, none⟩)]) ∧ w' = w.alloc (.cells #[.slice a n c] 43) := by
  go_enter Try.func21, Try.ntmps21
  go_wp2
  go_ret
  exact ⟨rfl, rfl⟩

/-- The cells of what is yielded. -/
def setC (vo : Nat → Option Addr × Nat × Nat) (rs : List Rc) {n : Nat} (x : SegD n) : List Value :=
  [.slice (vo x.1.1.1).1 (vo x.1.1.1).2.1 (vo x.1.1.1).2.2, .int .i64 (rs.getD x.1.1.1 rcZ).data.ty, .int .u32 (ttlS rs x.1.1.1 x.1.1.2 : Int), .slice x.1.2.1 (x.1.1.2 - x.1.1.1) x.1.2.2]
theorem setV_C (vo : Nat → Option Addr × Nat × Nat) (rs : List Rc) {n : Nat} (x : SegD n) : setV (fun k => .slice (vo k).1 (vo k).2.1 (vo k).2.2) rs x = #[.agg (setC vo rs x).toArray] := rfl

/-- The sets made so far. -/
def SOut (N B : Nat) (css : List (List Value)) (vo : Nat → Option Addr × Nat × Nat) (rs : List Rc) {n : Nat} (pre : List (SegD n)) (W : World) : Prop :=
  ∃ v, Boxed W B 45 v ∧ OwnC 4 40 W N v (pre.map fun x => setC vo rs x) ∧ ∀ x ∈ pre, DatO N css x W
def SetI (N B : Nat) (W0 : World) (css : List (List Value)) (vo : Nat → Option Addr × Nat × Nat) (rs : List Rc) {n : Nat} (pre : List (SegD n)) (W : World) : Prop := KpX N B W0 W ∧ SOut N B css vo rs pre W
theorem DatO.keptO {N : Nat} {css : List (List Value)} {n : Nat} {x : SegD n} {W W' : World} {row : Option Nat} (h : DatO N css x W) (hg : W.grownBy W' row) (hr : ∀ r, row = some r → ∃ o : Obj, W.heap[r]? = some o ∧ o.isCells = false) : DatO N css x W' := OwnC.keptO h hg hr
theorem setI_own {N B : Nat} {W0 : World} {css : List (List Value)} {vo : Nat → Option Addr × Nat × Nat} {rs : List Rc} {n : Nat} (hB : B < N) (hn : N ≤ W0.heap.size) : OwnFrom N (SetI (n := n) N B W0 css vo rs) := by
  rintro pre W W' row ⟨h1, v, h2, h3, h4⟩ hg hr
  exact ⟨h1.trans (KpX.grown (Nat.le_trans hn h1.size) hg (fun r e => .inl (hr r e).1)), v, h2.kept hg (fun e => by have := (hr B e.symm).1; omega), OwnC.keptO h3 hg (fun r e => (hr r e).2), fun x hx => (h4 x hx).keptO hg (fun r e => (hr r e).2)⟩
theorem SOut.below {N B : Nat} {css : List (List Value)} {vo : Nat → Option Addr × Nat × Nat} {rs : List Rc} {n : Nat} {pre : List (SegD n)} {W W' : World} (h : SOut N B css vo rs pre W) (hb : Below W.heap.size W W') : SOut N B css vo rs pre W' := by
  obtain ⟨v, h2, h3, h4⟩ := h
  exact ⟨v, (hb.block B h2.lt).trans h2, OwnK.below h3 hb, fun x hx => OwnK.below (h4 x hx) hb⟩
/-- One more. -/
theorem SOut.snoc {N B : Nat} {css : List (List Value)} {vo : Nat → Option Addr × Nat × Nat} {rs : List Rc} {n : Nat} {pre : List (SegD n)} {x : SegD n} {W W' : World} {v v' : Value} (h2 : Boxed W B 45 v) (h3 : OwnC 4 40 W N v (pre.map fun x => setC vo rs x)) (h4 : ∀ x ∈ pre, DatO N css x W) (hx : DatO N css x W)
    (ho : OwnC 4 40 W' N v' ((pre.map fun x => setC vo rs x) ++ [setC vo rs x])) (hg : W.grownBy W' v.ownBlock) : SOut N B css vo rs (pre ++ [x]) (W'.setCell ⟨B, 0, none⟩ v') := by
  have hne : some B ≠ v.ownBlock := OwnK.ne_block h3 h2 (by decide)
  have hB' : Boxed W' B 45 v := h2.kept hg hne
  have hk : ∀ {y : SegD n}, DatO N css y W → DatO N css y (W'.setCell ⟨B, 0, none⟩ v') := fun {y} h => OwnK.keptB (OwnK.kept2 h h3 (by decide) hg) hB' (by decide) 0 v'
  refine ⟨v', hB'.set v', OwnK.keptB (by rw [List.map_append]; exact ho) hB' (by decide) 0 v', fun y hy => ?_⟩
  rcases List.mem_append.1 hy with hy | hy
  · exact hk (h4 y hy)
  · rw [List.mem_singleton] at hy; subst hy; exact hk hx
/-- What a row of these has. -/
theorem setR_of {W : World} {N m : Nat} {css : List (List Value)} {vo vn vu vt vr : Nat → Option Addr × Nat × Nat} {rs : List Rc} (hm : css.length = m) (hR : Rcs W css rs)
    (hc : ∀ k (hk : k < css.length) (hr : k < rs.length), css[k] = [.slice (vo k).1 (vo k).2.1 (vo k).2.2, .int .u32 (rs[k].ttl : Int), .int .i64 rs[k].data.ty, .slice (vn k).1 (vn k).2.1 (vn k).2.2, .slice (vu k).1 (vu k).2.1 (vu k).2.2, .slice (vt k).1 (vt k).2.1 (vt k).2.2, .slice (vr k).1 (vr k).2.1 (vr k).2.2])
    (x : SegD m) (hd : DatO N css x W) : SetR W (setC vo rs x) (setR rs x.1.1) := by
  obtain ⟨⟨⟨s, e⟩, ad, cd⟩, hx1, hx2⟩ := x
  simp only at hx1 hx2
  have hl := hR.1
  have hs : s < rs.length := by omega
  have hsc : s < css.length := by omega
  obtain ⟨j, rfl⟩ : ∃ j, e = s + j + 1 := ⟨e - s - 1, by omega⟩
  have e1 : setR rs (s, s + j + 1) = stR rs[s] ((rs.drop (s + 1)).take j) := by
    unfold setR
    simp only [List.drop_eq_getElem_cons hs]
    rw [show s + j + 1 - s - 1 = j by omega]
  have e2 : ttlS rs s (s + j + 1) = leastM rs[s].ttl ((rs.drop (s + 1)).take j) := by
    unfold ttlS
    rw [getD_rs hs, List.drop_eq_getElem_cons hs, show s + j + 1 - s = j + 1 by omega, List.take_succ_cons, leastM_first]
  show SetR W (setC vo rs ⟨((s, s + j + 1), ad, cd), hx1, hx2⟩) (setR rs (s, s + j + 1))
  rw [e1]
  unfold setC
  simp only
  rw [getD_rs hs, e2]
  have hk5 : ∀ cs ∈ dcs css s (s + j + 1), cs.length = 5 := fun cs h => by
    obtain ⟨c7, h7, rfl⟩ := List.mem_map.1 h
    rw [List.length_drop, hR.ck c7 (List.mem_of_mem_drop (List.mem_of_mem_take h7))]
  have hdl : (dcs css s (s + j + 1)).length = j + 1 := by rw [dcs_len (by omega)]; omega
  have h0 := hR.2 s hsc hs
  rw [hc s hsc hs] at h0
  obtain ⟨_, _, _, _, _, e5, n1, _⟩ := h0
  simp only [List.cons.injEq, and_true] at e5
  refine ⟨vo s, (ad, s + j + 1 - s, cd), dcs css s (s + j + 1), rfl, ?_, SlK.of_own hd hk5, ?_, fun i h1 h2 => ⟨hk5 _ (List.getElem_mem h1), ?_⟩⟩
  · rw [e5.1]; exact n1
  · rw [hdl]; simp [stR]; omega
  · have hi : i < j + 1 := by rw [hdl] at h1; exact h1
    have hc1 : s + i < css.length := by omega
    have hc2 : s + i < rs.length := by omega
    have ed : (dcs css s (s + j + 1))[i] = css[s + i].drop 2 := by
      simp only [dcs, List.getElem_map, List.getElem_take, List.getElem_drop]
    have er : (stR rs[s] ((rs.drop (s + 1)).take j)).data[i] = rs[s + i].data := by
      cases i with
      | zero => rfl
      | succ i =>
        simp only [stR, List.getElem_cons_succ, List.getElem_map, List.getElem_take, List.getElem_drop]
        congr 2; omega
    rw [ed, er]
    have hi0 := hR.2 (s + i) hc1 hc2
    obtain ⟨wo, wn, wu, wt, wr, e6, _, d1⟩ := hi0
    rw [e6]
    exact d1

end Go.Proofs.Ytfcdajldpnomfaa

/-
  rset.Sets: the walk.
-/
namespace Go.Proofs.Ytfcdajldpnomfaa
open Go.RowKit Go.Shelf
set_option maxRecDepth 20000
set_option linter.unusedVariables false
set_option linter.unusedSimpArgs false

theorem KpX.grownX {N B : Nat} {W W' : World} (hN : N = W.heap.size) (h : KpX N B W W') : W.grownBy W' (some B) := ⟨h.os, h.tape, h.output, h.size, fun k hk hne => h.block k (by omega) (fun e => hne (by rw [e]))⟩
theorem FrAt.keptX {W W' : World} {base B : Nat} {cs : List Value} {r : Rc} (h : FrAt W base cs r) (hB : B < base) (hg : W.grownBy W' (some B)) : FrAt W' base cs r := by
  obtain ⟨vo, vn, vu, vt, vr, e, h1, ⟨⟨vs, k1, k2, k3⟩, i1, i2, i3⟩⟩ := h
  have hk : ∀ {α : Type} {T : TypeId} {enc : α → Value} {v : Value} {xs : List α}, OwnG T enc W base v xs → OwnG T enc W' base v xs := fun {α T enc v xs} o => o.kept hg (.inr fun e => by have := o.base_le B e; omega)
  exact ⟨vo, vn, vu, vt, vr, e, hk h1, ⟨⟨vs, hk k1, k2, fun i a b => hk (k3 i a b)⟩, hk i1, hk i2, hk i3⟩⟩
abbrev Sl5 := (Option Addr × Nat × Nat) × (Option Addr × Nat × Nat) × (Option Addr × Nat × Nat) × (Option Addr × Nat × Nat) × (Option Addr × Nat × Nat)
theorem rcs_shapes {W : World} {css : List (List Value)} {rs : List Rc} (hR : Rcs W css rs) : ∃ vo vn vu vt vr : Nat → Option Addr × Nat × Nat, ∀ k (hk : k < css.length) (hr : k < rs.length), css[k] = [.slice (vo k).1 (vo k).2.1 (vo k).2.2, .int .u32 (rs[k].ttl : Int), .int .i64 rs[k].data.ty, .slice (vn k).1 (vn k).2.1 (vn k).2.2, .slice (vu k).1 (vu k).2.1 (vu k).2.2, .slice (vt k).1 (vt k).2.1 (vt k).2.2, .slice (vr k).1 (vr k).2.1 (vr k).2.2] := by
  obtain ⟨F, hF⟩ := Go.Deep.choose_lt (n := css.length) (α := Sl5) (p := fun k q => ∀ (hk : k < css.length) (hr : k < rs.length), css[k] = [.slice q.1.1 q.1.2.1 q.1.2.2, .int .u32 (rs[k].ttl : Int), .int .i64 rs[k].data.ty, .slice q.2.1.1 q.2.1.2.1 q.2.1.2.2, .slice q.2.2.1.1 q.2.2.1.2.1 q.2.2.1.2.2, .slice q.2.2.2.1.1 q.2.2.2.1.2.1 q.2.2.2.1.2.2, .slice q.2.2.2.2.1 q.2.2.2.2.2.1 q.2.2.2.2.2.2]) (fun k hk => by
    obtain ⟨x0, x3, x4, x5, x6, e⟩ := (hR.2 k hk (by have := hR.1; omega)).shape
    exact ⟨(x0, x3, x4, x5, x6), fun _ _ => e⟩)
  exact ⟨fun k => (F k).1, fun k => (F k).2.1, fun k => (F k).2.2.1, fun k => (F k).2.2.2.1, fun k => (F k).2.2.2.2, fun k hk hr => hF k hk hk hr⟩
theorem sets_stops (N B : Nat) (W0 : World) (a : Option Addr) (m c b1 : Nat) (css : List (List Value)) (rs : List Rc) (vo vn vu vt vr : Nat → Option Addr × Nat × Nat) (hA : SlK W0 (.slice a m c) css) (hm : css.length = m) (hmb : m ≤ 1048576) (hst : ∀ W, KpX N B W0 W → Rcs W css rs) (hOK : ∀ r ∈ rs, RcOK r)
    (hN : N = W0.heap.size) (hb1 : b1 < N) (hb1B : b1 ≠ B) (hown : ∀ b, (Value.slice a m c).ownBlock = some b → b ≠ B)
    (hc1 : Boxed W0 b1 43 (.slice a m c))
    (hc : ∀ k (hk : k < css.length) (hr : k < rs.length), css[k] = [.slice (vo k).1 (vo k).2.1 (vo k).2.2, .int .u32 (rs[k].ttl : Int), .int .i64 rs[k].data.ty, .slice (vn k).1 (vn k).2.1 (vn k).2.2, .slice (vu k).1 (vu k).2.1 (vu k).2.2, .slice (vt k).1 (vt k).2.1 (vt k).2.2, .slice (vr k).1 (vr k).2.1 (vr k).2.2]) :
    SeqStopsD Fence.wide 7 Try.prog 36 #[.pointer (some ⟨b1, 0, none⟩)] (setV (fun k => .slice (vo k).1 (vo k).2.1 (vo k).2.2) rs (n := m)) (DatO N css) (KpX N B) (fun xs => xs.map (·.1.1) = segsS rs) (fun xs => xs.map (·.1.1) <+: segsS rs) m W0 := by
  have hR := hst W0 (KpX.refl _ _ _)
  have hck := hR.ck
  obtain ⟨g, off, hg⟩ : ∃ g off, 0 < m → a = some ⟨g, off, none⟩ ∧ g < W0.heap.size := by
    by_cases h0 : 0 < m
    · obtain ⟨g, off, e, hl, _⟩ := hA.elem hck (by omega)
      exact ⟨g, off, fun _ => ⟨e, hl⟩⟩
    · exact ⟨0, 0, fun h => absurd h h0⟩
  have hnc : m ≤ c := by
    obtain ⟨a', c', e, h1, _⟩ := id hA
    cases e; omega
  have H : SetW b1 a g off m c css rs vo vn vu vt vr (KpX N B) (fun W => KpX N B W0 W) :=
    { c1 := fun W hK => Boxed.cell (t := 43) ((hK.block b1 hb1 hb1B).trans hc1)
      ha := fun h0 => (hg h0).1
      el := fun W hK k hlt u0 u1 u2 u3 u4 u5 u6 e => by
        have h0 : 0 < m := by omega
        obtain ⟨ea, hgl⟩ := hg h0
        have hA2 : SlK W (.slice a m c) css := by
          obtain ⟨a', c', e1, i1, i2, i3⟩ := id hA
          cases e1
          refine ⟨_, _, by rw [hm], by rw [hm]; exact hnc, i2, ?_⟩
          rcases i3 with i3 | ⟨b, o2, e2, hlt2, hcell⟩
          · exact .inl i3
          · refine .inr ⟨b, o2, e2, Nat.lt_of_lt_of_le hlt2 hK.size, fun j u hj => (World.cell?_of_block (a := ⟨b, o2 + j, none⟩) (hK.block b (by omega) (hown b (by rw [e2]; rfl)))).trans (hcell j u hj)⟩
        obtain ⟨g', off', ea', _, hel⟩ := hA2.elem hck (by omega)
        rw [ea] at ea'
        cases ea'
        exact hel k hlt u0 u1 u2 u3 u4 u5 u6 e W (Below.refl _ _)
      bel := fun W hK i j hi hj hj' tt a1 n1 c1 => by
        have hRW := hst W hK
        have hic : i < css.length := by have := hR.1; omega
        have h1 := hRW.2 i hic hi
        rw [hc i hic hi] at h1
        obtain ⟨_, _, _, _, _, e5, n1', _⟩ := h1
        simp only [List.cons.injEq, and_true] at e5
        exact rset_belongs _ _ _ a1 n1 c1 tt rs[i].owner rs[i].data.ty css[j] rs[j] W (by rw [e5.1]; exact n1') (hOK _ (List.getElem_mem hi)).1 (hRW.2 j hj hj') (hOK _ (List.getElem_mem hj'))
      below := fun W W' h hb => h.trans (KpX.of_below (by rw [hN]; exact h.size) hb)
      kp := fun W W' h k => h.trans k
      cell := hc }
  intro l J Jx W hW hJ hJx hY h0
  refine (sets1_in 7 (by omega) l b1 a g off m c hnc hmb css rs hm (by rw [← hR.1]; exact hm) vo vn vu vt vr N (KpX N B) _ H J Jx (fun pre W W' h hb => hJ pre W W' none h (grown_of_below hb) (fun _ e => by cases e)) (fun W h => by rw [hN]; exact h.size) hY W (KpX.of_below (by omega) hW) h0).mono ?_
  rintro e W' ⟨h1, h2 | ⟨pre, h3, h2⟩⟩
  · exact ⟨h1, .inl h2⟩
  · exact ⟨h1, .inr ⟨pre, h3, h2⟩⟩
theorem elem_set : ElemK 4 40 45 64 := ⟨Try.underlying45, _, _, rfl, rfl, rfl, rfl, rfl⟩
end Go.Proofs.Ytfcdajldpnomfaa

/-
  rset.Sets: the walk itself.
-/
namespace Go.Proofs.Ytfcdajldpnomfaa
open Go.RowKit Go.Shelf
set_option maxRecDepth 20000
set_option linter.unusedVariables false
set_option linter.unusedSimpArgs false

theorem insR_ok' {x : Rc} (hx : RcOK x) : ∀ (l : List Rc), (∀ y ∈ l, RcOK y) → ∀ y ∈ insR l x, RcOK y
  | [], _, y, hy => by
    rw [insR, List.mem_singleton] at hy; subst hy; exact hx
  | z :: r, h, y, hy => by
    have hz := h z (by simp)
    rw [insR] at hy
    split at hy
    · rcases List.mem_cons.1 hy with rfl | hy
      · exact hz
      · exact insR_ok' hx r (fun a ha => h a (by simp [ha])) y hy
    · split at hy
      · rcases List.mem_cons.1 hy with rfl | hy
        · exact ⟨hz.1, by show minT z.ttl x.ttl < _; unfold minT; split; exact hx.2.1; exact hz.2.1, hz.2.2⟩
        · exact h y (by simp [hy])
      · rcases List.mem_cons.1 hy with rfl | hy
        · exact hx
        · exact h y hy
theorem canonM_ok' (l : List Rc) : (∀ r ∈ l, RcOK r) → ∀ y ∈ canonM l, RcOK y :=
  list_snoc_ind (P := fun l => (∀ r ∈ l, RcOK r) → ∀ y ∈ canonM l, RcOK y) (fun _ y hy => by cases hy) (fun l x ih h y hy => by
    rw [canonM_snoc] at hy
    exact insR_ok' (h x (by simp)) _ (ih fun r hr => h r (by simp [hr])) y hy) l
section
attribute [local go_sem] Oper.semAt_some
set_option maxRecDepth 100000 in
set_option maxHeartbeats 16000000 in
theorem rset_Sets (v : Value) (css0 : List (List Value)) (l : List Rc) (w : World) (hA : SlK w v css0) (hR : Rcs w css0 l) (hOK : ∀ r ∈ l, RcOK r) (hl : css0.length ≤ 1048576) :
    Calls Try.prog 11 #[v] w (SetsPost w (setsM (canonM l))) := by
  have hb0 : Below w.heap.size w (w.alloc (.cells #[.slice none 0 0] 45)) := (Below.refl _ w).alloc (Nat.le_refl _) _
  have hC := rec_Canon v css0 l (w.alloc (.cells #[.slice none 0 0] 45)) (hA.below hb0) (hR.below hb0) hOK hl
  have HL := Lib.hid (show l.length ≤ 1048576 by have := hR.1; omega)
  have HOK := Lib.hid (canonM_ok' l hOK)
  obtain ⟨a, c, rfl, -⟩ := id hA
  obtain ⟨n0, hn0⟩ : ∃ n, css0.length = n := ⟨_, rfl⟩
  rw [hn0] at hC ⊢
  obtain ⟨L, hL⟩ : ∃ L, canonM l = L := ⟨_, rfl⟩
  have HLn := Lib.hid (show L.length ≤ 1048576 by rw [← hL]; have := canonM_length l; have := HL.out; omega)
  unfold CanonPost at hC
  rw [hL] at hC HOK ⊢
  clear hA hR hOK hl hn0 hb0 hL HL
  refine (callsIn_wide (n := 8)).1 ?_
  refine callsIn_of_wp_marks Try.func11 rfl trivial ?_ rfl
  simp only [Try.ntmps11, List.size_toArray, List.length_cons, List.length_nil, Nat.reduceAdd, Nat.reduceSub, Array.replicate_succ, Array.replicate_zero, List.push_toArray, List.append_toArray, List.nil_append, List.cons_append]
  gi_wp2_with (refine ⟨trivial, ?_⟩; gi_at_call 14; refine (callsIn_wide.2 hC).mono ?_; rintro e w1 ⟨v1, css, rfl, ho1, hl1, hf1, hb1⟩; obtain ⟨a1, c1, rfl⟩ := OwnK.shape ho1; obtain ⟨m, hm⟩ : ∃ m, css.length = m := ⟨_, rfl⟩; rw [hm] at ho1 hl1; have HO1 := Lib.hid ho1; have HL1 := Lib.hid hl1; have HF1 := Lib.hid hf1; have HB1 := Lib.hid hb1; have HM := Lib.hid hm; clear ho1 hl1 hf1 hb1 hC)
  refine ⟨trivial, ?_⟩
  refine (callsIn_wide.2 (rset_sets _ _ _ _)).mono ?_
  rintro e w2 ⟨rfl, rfl⟩
  gi_wp2
  obtain ⟨B, hB⟩ : ∃ B, w.heap.size = B := ⟨_, rfl⟩
  have hB1 : (w.alloc (.cells #[.slice none 0 0] 45)).heap.size = B + 1 := by rw [World.size_alloc, hB]
  obtain ⟨W0, hW0⟩ : ∃ W0, w1.alloc (.cells #[.slice a1 m c1] 43) = W0 := ⟨_, rfl⟩
  obtain ⟨N, hN⟩ : ∃ N, W0.heap.size = N := ⟨_, rfl⟩
  have hsz : N = w1.heap.size + 1 := by rw [← hN, ← hW0]; simp
  have hs1 : B + 1 ≤ w1.heap.size := by rw [← hB1]; exact HB1.out.size
  have hBx : Boxed w1 B 45 (.slice none 0 0) := by
    have h := Boxed.new w 45 (.slice none 0 0)
    rw [hB] at h
    exact (HB1.out.block B (by omega)).trans h
  have hw1 : Below w.heap.size w w1 := (((Below.refl _ w).alloc (Nat.le_refl _) _).trans (HB1.out.mono (by simp)))
  have hB01 : Below w1.heap.size w1 W0 := by rw [← hW0]; exact (Below.refl _ w1).alloc (Nat.le_refl _) _
  have b1 : Boxed W0 w1.heap.size 43 (.slice a1 m c1) := by rw [← hW0]; exact Boxed.new w1 _ _
  have hBx0 : Boxed W0 B 45 (.slice none 0 0) := (hB01.block B (by omega)).trans hBx
  have hw0 : Below w.heap.size w W0 := hw1.trans (hB01.mono (by omega))
  have hml : m = L.length := HL1.out
  have hmb : m ≤ 1048576 := by have := HLn.out; omega
  have hfr : ∀ j (h1 : j < css.length) (h2 : j < L.length), FrAt W0 (B + 1) css[j] L[j] := fun j h1 h2 => by
    have h := (HF1.out j h1 h2).below hB01
    rw [hB1] at h; exact h
  have hst : ∀ W, KpX N B W0 W → Rcs W css L := fun W hK => ⟨by rw [hm]; exact hml, fun i h1 h2 => ((hfr i h1 h2).keptX (by omega) (hK.grownX hN.symm)).rcAt⟩
  have hsl : SlK W0 (.slice a1 m c1) css := (SlK.of_own HO1.out (fun cs hc => by
    obtain ⟨i, hi, rfl⟩ := List.mem_iff_getElem.1 hc
    exact (HF1.out i hi (by omega)).rcAt.len)).below hB01
  have hown : ∀ b, (Value.slice a1 m c1).ownBlock = some b → b ≠ B := fun b e => by
    have := OwnK.base_le HO1.out b e
    rw [hB1] at this; omega
  obtain ⟨vo, vn, vu, vt, vr, hc⟩ := rcs_shapes (hst W0 (KpX.refl _ _ _))
  have HSEQ := Lib.hid (sets_stops N B W0 a1 m c1 w1.heap.size css L vo vn vu vt vr hsl hm hmb hst HOK.out hN.symm (by omega) (by omega) hown b1 hc)
  rw [hB, hW0]
  have HSZ := Lib.hid hsz; have HS1 := Lib.hid hs1; have HW0 := Lib.hid hw0; have HB := Lib.hid hB; have HN := Lib.hid hN; have HST := Lib.hid hst; have HMB := Lib.hid hmb; have HCC := Lib.hid hc; have HMM := Lib.hid hm
  clear hsz hs1 hw0 hBx hw1 hB01 b1 HB1 hW0 hB hN hst hmb hc hfr hsl hown hml HF1 HO1 hB1 hm
  refine wpIn_rangeFunc_D rfl (by omega) (gf := 36) (lb := #[.pointer (some ⟨w1.heap.size, 0, none⟩)]) rfl trivial (enters_of Try.func36 (by kernel_rfl) rfl)
    HSEQ.out (fun h k => h.trans k)
    (fun W l o o' hl h h1 h2 => ⟨rfl, rfl, rfl, by simp, fun k a b => World.putObj_heap_other (by have := HN.out; omega)⟩) (Below.refl _ _) (fun _ => rfl)
    (SetI N B W0 css vo L) (fun k pre W => False) (by rw [HN.out]; exact setI_own (by have := HSZ.out; have := HS1.out; omega) (by rw [HN.out]; omega)) (fun _ => ownFrom_pure _ _)
    ⟨KpX.refl _ _ _, .slice none 0 0, hBx0, OwnK.nil _ _, fun x h => by cases h⟩
    (fun x a' W => ∃ b, a' = { tmps := #[.slice a n0 c, undef, .slice none 0 0, .pointer (some ⟨B, 0, none⟩), .pointer (some ⟨b, 0, none⟩), .slice a n0 c, .slice a1 m c1, .func (.func 36) #[] #[.pointer (some ⟨w1.heap.size, 0, none⟩)], .agg (setC vo L x).toArray, undef, undef, undef, undef, undef], defers := [] } ∧ W0.heap.size ≤ b ∧ W.heap[b]? = some (.cells (setC vo L x).toArray 40) ∧ DatO N css x W)
    (fun a' x W W' row ⟨b, ha, hb, hx, hd⟩ hg hr => ⟨b, ha, hb, (hg.block b (kblock_lt hx) (fun e => by obtain ⟨_, o, ho, hcell⟩ := hr b e.symm; rw [hx] at ho; cases ho; cases hcell)).trans hx, hd.keptO hg (fun r e => (hr r e).2)⟩) ?assign ?body ?done ?stop
  case assign =>
    intro l pre x W K hi hd hK
    have hNW : N ≤ W.heap.size := by rw [← HN.out]; exact hi.1.size
    have hbA : ∀ o, Below W.heap.size W (W.alloc o) := fun o => (Below.refl _ W).alloc (Nat.le_refl _) o
    unfold setV
    gi_wp2
    exact hK _ _ ((KeepsOthers.of_below (hbA _)).from _) (KpX.of_below hNW (hbA _)) ⟨hi.1.trans (KpX.of_below hNW (hbA _)), hi.2.below (hbA _)⟩ ⟨W.heap.size, rfl, by rw [HN.out]; exact hNW, knew W _, OwnK.below hd (hbA _)⟩
  case body =>
    rintro l pre x a' W ⟨hK, v, h2, h3, h4⟩ ⟨b, rfl, hb, hbx, hdx⟩ hlt
    have hNW : N ≤ W.heap.size := by rw [← HN.out]; exact hK.size
    obtain ⟨ao, co, rfl⟩ := OwnK.shape h3
    obtain ⟨lp, hlp⟩ : ∃ n, (pre.map fun x => setC vo L x).length = n := ⟨_, rfl⟩
    rw [hlp] at h2 h3
    have hlp2 : lp ≤ 1048576 := by have := HMB.out; rw [← hlp, List.length_map]; omega
    have HX := Lib.hid hdx; have HK := Lib.hid hK; have H2 := Lib.hid h2; have H3 := Lib.hid h3; have H4 := Lib.hid h4; have HNW := Lib.hid hNW
    have HLP := Lib.hid hlp; have HLP2 := Lib.hid hlp2
    have hc0 := h2.cell
    obtain ⟨x0, hx0⟩ : ∃ y, y = setC vo L x := ⟨_, rfl⟩
    have hcs : ∃ p0 q0 k0 t1 t2 p3 q3 k3, setC vo L x = [.slice p0 q0 k0, .int .i64 t1, .int .u32 t2, .slice p3 q3 k3] := ⟨_, _, _, _, _, _, _, _, rfl⟩
    obtain ⟨p0, q0, k0, t1, t2, p3, q3, k3, ecs⟩ := hcs
    have HEC := Lib.hid ecs
    rw [ecs] at hbx
    have y0 := kcell hbx 0 _ rfl; have y1 := kcell hbx 1 _ rfl; have y2 := kcell hbx 2 _ rfl; have y3 := kcell hbx 3 _ rfl
    have hone : ∀ u ∈ [Value.slice p0 q0 k0, .int .i64 t1, .int .u32 t2, .slice p3 q3 k3], u.oneCell' = true := by
      intro u hu; simp only [List.mem_cons, List.not_mem_nil, or_false] at hu; rcases hu with rfl | rfl | rfl | rfl <;> rfl
    have HONE := Lib.hid hone
    rw [ecs]
    clear hbx hdx hK h2 h3 h4 hNW hlp hlp2 ecs hone hx0 hBx0 HSEQ
    gi_wp2_with (gi_at_builtin; refine wplIn_append_c W rfl (.tmp 9) (.tmp 11) elem_set (by decide) rfl N (.slice ao lp co) _ rfl H3.out [.slice p0 q0 k0, .int .i64 t1, .int .u32 t2, .slice p3 q3 k3] rfl HONE.out 1 (by simp [Act.eval]) HNW.out (by have := HLP2.out; rw [HLP.out]; unfold maxLen; omega) (by have := HLP2.out; rw [HLP.out]; omega) ?_; intro v6 w6 hown6 hg6; obtain ⟨a9, c9, e9⟩ := OwnK.shape hown6; generalize List.length _ = ln at e9; subst e9; have hne6 : some B ≠ (Value.slice ao lp co).ownBlock := OwnK.ne_block H3.out H2.out (by decide); have hBx6 := H2.out.kept hg6 hne6; have c6 := hBx6.cell; have f6 := hBx6.frozen; have HOW6 := Lib.hid hown6; have HG6 := Lib.hid hg6; clear hown6 hg6 hBx6 hne6)
    have hK6 : KpX N B W (w6.setCell ⟨B, 0, none⟩ (.slice a9 ln c9)) :=
      (KpX.grown HNW.out HG6.out (fun r e => .inl (OwnK.base_le H3.out r e))).trans (KpX.grown (Nat.le_trans HNW.out HG6.out.size) (grownBy_set w6 B 0 _) (fun r e => by cases e; exact .inr rfl))
    have hko : KeepsOthers W (w6.setCell ⟨B, 0, none⟩ (.slice a9 ln c9)) := (KeepsOthers.grown_c H3.out HG6.out).trans (KeepsOthers.setCell _ _ _)
    refine ⟨hko.from _, hK6, HK.out.trans hK6, SOut.snoc H2.out H3.out H4.out HX.out ?_ HG6.out⟩
    rw [HEC.out]; exact HOW6.out
  case done =>
    rintro d xs W hd hxs ⟨hK, v, h2, h3, h4⟩ hD0
    have hc := h2.cell
    have HXS := Lib.hid hxs; have HK := Lib.hid hK; have H2 := Lib.hid h2; have H3 := Lib.hid h3; have H4 := Lib.hid h4; have HD := Lib.hid hd
    clear hxs hK h3 h4 hd h2
    gi_wp2
    refine ⟨by simp, .inl ⟨_, _, rfl, run_takeDeferred hD0, ?_⟩⟩
    refine ⟨_, results_tmp rfl _ _ _, ?_⟩
    have hr : ∀ r, some d = some r → ∃ o : Obj, W.heap[r]? = some o ∧ o.isCells = false := fun r e => by cases e; exact ⟨_, hD0, rfl⟩
    have hDN : N ≤ d := by have := HD.out; rw [HN.out] at this; exact this
    have hwN : w.heap.size ≤ N := by have := HN.out; have := HW0.out.size; omega
    have hg := grownBy_putObj' W d (.deferred none)
    have hK2 : KpX N B W0 (W.putObj d (.deferred none)) := HK.out.trans (KpX.grown (by rw [← HN.out]; exact HK.out.size) hg (fun r e => by cases e; exact .inl hDN))
    have hlen : xs.length = (setsM L).length := by rw [← segs_sets, List.length_map, ← HXS.out, List.length_map]
    refine ⟨v, rfl, ⟨xs.map (fun x => setC vo L x), SlK.of_own (OwnC.keptO H3.out hg hr) (fun cs hc => by obtain ⟨x, _, rfl⟩ := List.mem_map.1 hc; rfl), by rw [List.length_map]; exact hlen, fun j h1 h2 => ?_⟩, ?_⟩
    · rw [List.length_map] at h1
      have e : (setsM L)[j] = setR L xs[j].1.1 := by
        have h5 : (setsM L)[j]? = ((segsS L).map (setR L))[j]? := by rw [segs_sets]
        rw [List.getElem?_eq_getElem h2, ← HXS.out, List.map_map, List.getElem?_map, List.getElem?_eq_getElem h1] at h5
        simpa using h5
      rw [e, List.getElem_map]
      exact setR_of HMM.out (HST.out _ hK2) HCC.out xs[j] ((H4.out _ (List.getElem_mem h1)).keptO hg hr)
    · exact below_putO (HW0.out.trans (HK.out.below (by have := HB.out; omega) hwN)) (by omega) (Nat.le_refl _)
  case stop =>
    rintro d c3 pre W hd hp hF hK
    exact hF.elim
end
end Go.Proofs.Ytfcdajldpnomfaa

/-
  rset.Equal; the cells of rows of data and of sets. (Written by wip/tools/gensetf.py.)
-/
namespace Go.Proofs.Ytfcdajldpnomfaa
open Go.RowKit Go.Shelf
set_option maxRecDepth 20000
set_option linter.unusedVariables false
set_option linter.unusedSimpArgs false

theorem SlK.elem5 {W : World} {a : Option Addr} {n c : Nat} {css : List (List Value)} (h : SlK W (.slice a n c) css) (hk : ∀ cs ∈ css, cs.length = 5) (h0 : 0 < css.length) : ∃ b off, a = some ⟨b, off, none⟩ ∧ b < W.heap.size ∧
    ∀ k (hlt : k < css.length) (u0 u1 u2 u3 u4 : Value), css[k] = [u0, u1, u2, u3, u4] → ∀ W', Below W.heap.size W W' →
      W'.cell? ⟨b, off + k * 5, none⟩ = some u0 ∧ W'.cell? ⟨b, off + k * 5 + 1, none⟩ = some u1 ∧ W'.cell? ⟨b, off + k * 5 + 2, none⟩ = some u2 ∧ W'.cell? ⟨b, off + k * 5 + 3, none⟩ = some u3 ∧ W'.cell? ⟨b, off + k * 5 + 4, none⟩ = some u4 := by
  obtain ⟨a', c', e, _, _, h3⟩ := h
  cases e
  rcases h3 with h3 | ⟨b, off, rfl, hb, hc⟩
  · subst h3; simp at h0
  · refine ⟨b, off, rfl, hb, fun k hlt u0 u1 u2 u3 u4 he W' hB => ?_⟩
    have key : ∀ j u, j < 5 → [u0, u1, u2, u3, u4][j]? = some u → W'.cell? ⟨b, off + k * 5 + j, none⟩ = some u := fun j u hj hu => by
      rw [hB.cell (p := ⟨b, off + k * 5 + j, none⟩) hb, Nat.add_assoc]
      refine hc (k * 5 + j) u ?_
      have hl : ∀ (l : List (List Value)) (k : Nat) (hlt : k < l.length), (∀ cs ∈ l, cs.length = 5) → l[k] = [u0, u1, u2, u3, u4] → l.flatten[k * 5 + j]? = some u := by
        intro l
        induction l with
        | nil => intro k hlt; simp at hlt
        | cons x r ih =>
          intro k hlt hk he
          rw [List.flatten_cons]
          cases k with
          | zero =>
            rw [List.getElem_cons_zero] at he
            rw [he, List.getElem?_append_left (by simp; omega)]
            simpa using hu
          | succ k =>
            rw [List.getElem_cons_succ] at he
            have hx : x.length = 5 := hk x (by simp)
            rw [List.getElem?_append_right (by rw [hx]; omega), hx, show (k + 1) * 5 + j - 5 = k * 5 + j by omega]
            exact ih k (by simpa using hlt) (fun cs hc => hk cs (by simp [hc])) he
      exact hl css k hlt hk he
    exact ⟨key 0 u0 (by omega) rfl, key 1 u1 (by omega) rfl, key 2 u2 (by omega) rfl, key 3 u3 (by omega) rfl, key 4 u4 (by omega) rfl⟩

theorem SlK.elem4 {W : World} {a : Option Addr} {n c : Nat} {css : List (List Value)} (h : SlK W (.slice a n c) css) (hk : ∀ cs ∈ css, cs.length = 4) (h0 : 0 < css.length) : ∃ b off, a = some ⟨b, off, none⟩ ∧ b < W.heap.size ∧
    ∀ k (hlt : k < css.length) (u0 u1 u2 u3 : Value), css[k] = [u0, u1, u2, u3] → ∀ W', Below W.heap.size W W' →
      W'.cell? ⟨b, off + k * 4, none⟩ = some u0 ∧ W'.cell? ⟨b, off + k * 4 + 1, none⟩ = some u1 ∧ W'.cell? ⟨b, off + k * 4 + 2, none⟩ = some u2 ∧ W'.cell? ⟨b, off + k * 4 + 3, none⟩ = some u3 := by
  obtain ⟨a', c', e, _, _, h3⟩ := h
  cases e
  rcases h3 with h3 | ⟨b, off, rfl, hb, hc⟩
  · subst h3; simp at h0
  · refine ⟨b, off, rfl, hb, fun k hlt u0 u1 u2 u3 he W' hB => ?_⟩
    have key : ∀ j u, j < 4 → [u0, u1, u2, u3][j]? = some u → W'.cell? ⟨b, off + k * 4 + j, none⟩ = some u := fun j u hj hu => by
      rw [hB.cell (p := ⟨b, off + k * 4 + j, none⟩) hb, Nat.add_assoc]
      refine hc (k * 4 + j) u ?_
      have hl : ∀ (l : List (List Value)) (k : Nat) (hlt : k < l.length), (∀ cs ∈ l, cs.length = 4) → l[k] = [u0, u1, u2, u3] → l.flatten[k * 4 + j]? = some u := by
        intro l
        induction l with
        | nil => intro k hlt; simp at hlt
        | cons x r ih =>
          intro k hlt hk he
          rw [List.flatten_cons]
          cases k with
          | zero =>
            rw [List.getElem_cons_zero] at he
            rw [he, List.getElem?_append_left (by simp; omega)]
            simpa using hu
          | succ k =>
            rw [List.getElem_cons_succ] at he
            have hx : x.length = 4 := hk x (by simp)
            rw [List.getElem?_append_right (by rw [hx]; omega), hx, show (k + 1) * 4 + j - 4 = k * 4 + j by omega]
            exact ih k (by simpa using hlt) (fun cs hc => hk cs (by simp [hc])) he
      exact hl css k hlt hk he
    exact ⟨key 0 u0 (by omega) rfl, key 1 u1 (by omega) rfl, key 2 u2 (by omega) rfl, key 3 u3 (by omega) rfl⟩

/-- A row of data. -/
def Dts (W : World) (css : List (List Value)) (ds : List Dat) : Prop := css.length = ds.length ∧ ∀ i (h1 : i < css.length) (h2 : i < ds.length), css[i].length = 5 ∧ DatAt W (.agg css[i].toArray) ds[i]
theorem Dts.below {W W' : World} {css : List (List Value)} {ds : List Dat} (h : Dts W css ds) (hb : Below W.heap.size W W') : Dts W' css ds := ⟨h.1, fun i h1 h2 => ⟨(h.2 i h1 h2).1, (h.2 i h1 h2).2.below hb⟩⟩
theorem Dts.ck {W : World} {css : List (List Value)} {ds : List Dat} (h : Dts W css ds) : ∀ cs ∈ css, cs.length = 5 := fun cs hc => by
  obtain ⟨i, hi, rfl⟩ := List.mem_iff_getElem.1 hc
  exact (h.2 i hi (by have := h.1; omega)).1
theorem dt_shape {W : World} {cs : List Value} {d : Dat} (h : DatAt W (.agg cs.toArray) d) : ∃ x3 x4 x5 x6 : Option Addr × Nat × Nat, cs = [.int .i64 d.ty, .slice x3.1 x3.2.1 x3.2.2, .slice x4.1 x4.2.1 x4.2.2, .slice x5.1 x5.2.1 x5.2.2, .slice x6.1 x6.2.1 x6.2.2] := by
  obtain ⟨un, uu, ut, ur, e, ⟨vs, g1, _⟩, g2, g3, g4⟩ := h
  have e' : cs = [Value.int .i64 d.ty, un, uu, ut, ur] := by
    have : cs.toArray = #[Value.int .i64 d.ty, un, uu, ut, ur] := by injection e
    exact congrArg Array.toList this
  obtain ⟨a3, c3, rfl, _⟩ := g1
  obtain ⟨a4, c4, rfl, _⟩ := g2
  obtain ⟨a5, c5, rfl, _⟩ := nmAt_sl.1 g3
  obtain ⟨a6, c6, rfl, _⟩ := g4
  exact ⟨(a3, _, c3), (a4, _, c4), (a5, _, c5), (a6, _, c6), e'⟩
def sameDsM : List Dat → List Dat → Bool
  | [], [] => true
  | x :: r, y :: t => (compareD x y == 0) && sameDsM r t
  | _, _ => false
theorem sameDsM_len : ∀ (l m : List Dat), l.length ≠ m.length → sameDsM l m = false
  | [], [], h => absurd rfl h
  | [], _ :: _, _ => rfl
  | _ :: _, [], _ => rfl
  | x :: r, y :: t, h => by
    have := sameDsM_len r t (by simpa using h)
    simp [sameDsM, this]
theorem sameDsM_step {l m : List Dat} (k : Nat) (h1 : k < l.length) (h2 : k < m.length) : sameDsM (l.drop k) (m.drop k) = ((compareD l[k] m[k] == 0) && sameDsM (l.drop (k + 1)) (m.drop (k + 1))) := by
  rw [List.drop_eq_getElem_cons h1, List.drop_eq_getElem_cons h2]; rfl
theorem sameDsM_self : ∀ l, sameDsM l l = true
  | [] => rfl
  | x :: r => by
    have := cord_compareD.anti x x
    simp [sameDsM, sameDsM_self r, show compareD x x = 0 by omega]
set_option maxRecDepth 100000 in
set_option maxHeartbeats 8000000 in
theorem dat_equal (v u : Value) (css ess : List (List Value)) (l m : List Dat) (w : World) (hA : SlK w v css) (hR : Dts w css l) (hU : SlK w u ess) (hS : Dts w ess m) (hOK : ∀ r ∈ l, DatOK r) (hOK2 : ∀ r ∈ m, DatOK r) (hl : css.length ≤ 1048576) (hl2 : ess.length ≤ 1048576) :
    Calls Try.prog 18 #[v, u, .func (.func 19) #[] #[]] w fun e w' => e = .returned (.bool (sameDsM l m)) ∧ Below w.heap.size w w' := by
  obtain ⟨a, c, rfl, hc1, hc2, hx⟩ := id hA
  obtain ⟨b, d, rfl, hd1, hd2, hy⟩ := id hU
  obtain ⟨n, hn⟩ : ∃ n, css.length = n := ⟨_, rfl⟩
  obtain ⟨n2, hn2⟩ : ∃ n, ess.length = n := ⟨_, rfl⟩
  have HSA := Lib.hid hA; have HSU := Lib.hid hU; have HR := Lib.hid hR; have HS := Lib.hid hS; have HOK := Lib.hid hOK; have HOK2 := Lib.hid hOK2
  rw [hn] at HSA hc1 hl ⊢
  rw [hn2] at HSU hd1 hl2 ⊢
  have HN := Lib.hid hn; have HN2 := Lib.hid hn2
  have HLA := Lib.hid (show l.length = n by rw [← hn]; exact hR.1.symm)
  have HLB := Lib.hid (show m.length = n2 by rw [← hn2]; exact hS.1.symm)
  obtain ⟨res, hres⟩ : ∃ r, sameDsM l m = r := ⟨_, rfl⟩
  rw [hres]
  have HRES := Lib.hid hres
  clear hA hU hR hS hOK hOK2 hc2 hx hd2 hy hn hn2 hres
  by_cases hnn : n = n2
  · subst hnn
    have HB0 : Hid (Below w.heap.size w w) := Lib.hid (Below.refl _ _)
    go_enter Try.func18, Try.ntmps18
    go_wp2
    go_loopw [17] (fun vi wr => ∃ (k : Nat), vi = .int .i64 k ∧ k ≤ n ∧ Hid (res = sameDsM (l.drop k) (m.drop k)) ∧ Hid (Below w.heap.size w wr)) (fun vi _ => n - (intOf vi).toNat)
    case atStart => exact ⟨0, rfl, Nat.zero_le _, Lib.hid HRES.out.symm, HB0⟩
    case round =>
      obtain ⟨k, rfl, hk, HC, HB⟩ := hrel
      by_cases hlt : k < n
      · have hltz : (k : Int) < (n : Int) := by omega
        have hk1 : k < css.length := by have := HN.out; omega
        have hk2 : k < ess.length := by have := HN2.out; omega
        have hk3 : k < l.length := by have := HLA.out; omega
        have hk4 : k < m.length := by have := HLB.out; omega
        obtain ⟨ga, oa, rfl, hga, hea⟩ := HSA.out.elem5 HR.out.ck (by omega)
        obtain ⟨gb, ob, rfl, hgb, heb⟩ := HSU.out.elem5 HS.out.ck (by omega)
        have h0 := (HR.out.2 k hk1 hk3).2
        have h1 := (HS.out.2 k hk2 hk4).2
        have hok := HOK.out _ (List.getElem_mem hk3)
        have hok2 := HOK2.out _ (List.getElem_mem hk4)
        have hst := sameDsM_step k hk3 hk4
        obtain ⟨ra, hra⟩ : ∃ r, l[k]'hk3 = r := ⟨_, rfl⟩
        obtain ⟨rb, hrb⟩ : ∃ r, m[k]'hk4 = r := ⟨_, rfl⟩
        rw [hra] at h0 hok hst
        rw [hrb] at h1 hok2 hst
        clear hra hrb
        have htw := fun W (hb : Below w.heap.size w W) => rdata_Same _ _ _ _ W (h0.below hb) (h1.below hb) hok hok2
        obtain ⟨⟨p3, q3, r3⟩, ⟨p4, q4, r4⟩, ⟨p5, q5, r5⟩, ⟨p6, q6, r6⟩, e0⟩ := dt_shape h0
        obtain ⟨⟨p3', q3', r3'⟩, ⟨p4', q4', r4'⟩, ⟨p5', q5', r5'⟩, ⟨p6', q6', r6'⟩, e1⟩ := dt_shape h1
        simp only at e0 e1
        obtain ⟨c0, c1, c2, c3, c4⟩ := hea k hk1 _ _ _ _ _ e0 wr HB.out
        obtain ⟨d0, d1, d2, d3, d4⟩ := heb k hk2 _ _ _ _ _ e1 (wr.alloc (.cells #[.int .i64 ra.ty, .slice p3 q3 r3, .slice p4 q4 r4, .slice p5 q5 r5, .slice p6 q6 r6] 31)) (HB.out.alloc HB.out.size _)
        rw [e0, e1] at htw
        obtain ⟨tw, htw'⟩ : ∃ t, (compareD ra rb == 0) = t := ⟨_, rfl⟩
        rw [htw'] at htw hst
        have HTW := Lib.hid htw
        have HST := Lib.hid hst
        clear h0 h1 hok hok2 htw hst e0 e1 htw' hea heb hk1 hk2 hk3 hk4
        go_wp2_with fail
        have HBW := Lib.hid ((HB.out.alloc HB.out.size (.cells #[.int .i64 ra.ty, .slice p3 q3 r3, .slice p4 q4 r4, .slice p5 q5 r5, .slice p6 q6 r6] 31)).alloc (by have := HB.out.size; simp; omega) (.cells #[.int .i64 rb.ty, .slice p3' q3' r3', .slice p4' q4' r4', .slice p5' q5' r5', .slice p6' q6' r6'] 31))
        refine (HTW.out _ HBW.out).mono ?_
        rintro e w2 ⟨rfl, hb2⟩
        have HB2 := Lib.hid (HBW.out.trans (hb2.mono HBW.out.size))
        have HC2 : Hid (res = (tw && sameDsM (l.drop (k + 1)) (m.drop (k + 1)))) := Lib.hid (by rw [HC.out, HST.out])
        clear hb2 HC HST HTW HBW HB c0 c1 c2 c3 c4 d0 d1 d2 d3 d4
        cases tw
        · have HE : Hid (res = false) := Lib.hid (by rw [HC2.out]; rfl)
          clear HC2
          go_wp2
          go_ret
          exact ⟨by rw [HE.out]; rfl, HB2.out⟩
        · have HE : Hid (res = sameDsM (l.drop (k + 1)) (m.drop (k + 1))) := Lib.hid (by rw [HC2.out]; rfl)
          clear HC2
          go_wp2
          go_roundw
          case measure => simp [intOf]; omega
          case rel => exact ⟨k + 1, by go_num, by omega, HE, HB2⟩
      · obtain rfl : k = n := by omega
        have HE : Hid (res = true) := Lib.hid (by
          rw [HC.out, List.drop_of_length_le (by have := HLA.out; omega), List.drop_of_length_le (by have := HLB.out; omega)]; rfl)
        clear HC
        go_wp2
        go_ret
        exact ⟨by rw [HE.out]; rfl, HB.out⟩
  · have hz : ¬ (n : Int) = (n2 : Int) := by omega
    have hzb : ((n : Int) != (n2 : Int)) = true := by simpa using hz
    have HE : Hid (res = false) := Lib.hid (by rw [← HRES.out]; exact sameDsM_len _ _ (by have := HLA.out; have := HLB.out; omega))
    go_enter Try.func18, Try.ntmps18
    go_wp2
    go_ret
    exact ⟨by rw [HE.out]; rfl, Below.refl _ _⟩

set_option maxRecDepth 100000 in
set_option maxHeartbeats 4000000 in
theorem rset_Equal (a0 : Option Addr) (n0 c0 : Nat) (y1 t1 : Int) (v : Option Addr × Nat × Nat) (b0 : Option Addr) (m0 d0 : Nat) (y2 t2 : Int) (u : Option Addr × Nat × Nat) (css ess : List (List Value)) (l m : List Dat) (w : World) (hA : SlK w (.slice v.1 v.2.1 v.2.2) css) (hR : Dts w css l) (hU : SlK w (.slice u.1 u.2.1 u.2.2) ess) (hS : Dts w ess m) (hOK : ∀ r ∈ l, DatOK r) (hOK2 : ∀ r ∈ m, DatOK r) (hl : css.length ≤ 1048576) (hl2 : ess.length ≤ 1048576) :
    Calls Try.prog 8 #[.agg #[.slice a0 n0 c0, .int .i64 y1, .int .u32 t1, .slice v.1 v.2.1 v.2.2], .agg #[.slice b0 m0 d0, .int .i64 y2, .int .u32 t2, .slice u.1 u.2.1 u.2.2]] w fun e w' => e = .returned (.bool (sameDsM l m)) ∧ Below w.heap.size w w' := by
  obtain ⟨v1, v2, v3⟩ := v
  obtain ⟨u1, u2, u3⟩ := u
  have hb : Below w.heap.size w ((w.alloc (.cells #[.slice a0 n0 c0, .int .i64 y1, .int .u32 t1, .slice v1 v2 v3] 40)).alloc (.cells #[.slice b0 m0 d0, .int .i64 y2, .int .u32 t2, .slice u1 u2 u3] 40)) := ((Below.refl _ w).alloc (Nat.le_refl _) _).alloc (by simp) _
  have hc := dat_equal _ _ css ess l m _ (hA.below hb) (hR.below hb) (hU.below hb) (hS.below hb) hOK hOK2 hl hl2
  have HB := Lib.hid hb
  clear hA hR hU hS hOK hOK2 hl hl2 hb
  go_enter Try.func8, Try.ntmps8
  go_wp2_with fail
  refine hc.mono ?_
  rintro e w1 ⟨rfl, hb1⟩
  go_wp2
  go_ret
  exact ⟨rfl, HB.out.trans (hb1.mono HB.out.size)⟩
end Go.Proofs.Ytfcdajldpnomfaa

/-
  rset.Targets.
-/
namespace Go.Proofs.Ytfcdajldpnomfaa
open Go.RowKit Go.Shelf
set_option maxRecDepth 20000
set_option linter.unusedVariables false
set_option linter.unusedSimpArgs false

def tgtM (ds : List Dat) : List Nm := ds.filterMap fun d => d.names.head?
def targetsM (t : Int) (ds : List Dat) : List Nm := if t = 2 ∨ t = 5 ∨ t = 12 ∨ t = 39 ∨ t = 15 then tgtM ds else []
theorem tgtM_take {ds : List Dat} {k : Nat} (h : k < ds.length) : tgtM (ds.take (k + 1)) = tgtM (ds.take k) ++ ds[k].names.head?.toList := by
  unfold tgtM
  rw [List.take_succ_eq_append_getElem h, List.filterMap_append]
  cases e : ds[k].names with
  | nil => simp [e]
  | cons x r => simp [e]
theorem tgtM_len (ds : List Dat) : (tgtM ds).length ≤ ds.length := List.length_filterMap_le _ _
theorem dt_shape2 {W : World} {cs : List Value} {d : Dat} (h : DatAt W (.agg cs.toArray) d) : ∃ (an : Option Addr) (cn : Nat) (x4 x5 x6 : Option Addr × Nat × Nat) (vs : List Value), cs = [.int .i64 d.ty, .slice an d.names.length cn, .slice x4.1 x4.2.1 x4.2.2, .slice x5.1 x5.2.1 x5.2.2, .slice x6.1 x6.2.1 x6.2.2] ∧ SlAt W (.slice an d.names.length cn) vs ∧ vs.length = d.names.length ∧ d.names.length ≤ cn ∧ ∀ j (h1 : j < vs.length) (h2 : j < d.names.length), NmAt W vs[j] d.names[j] := by
  obtain ⟨un, uu, ut, ur, e, ⟨vs, g1, gl, g5⟩, g2, g3, g4⟩ := h
  have e' : cs = [Value.int .i64 d.ty, un, uu, ut, ur] := by
    have : cs.toArray = #[Value.int .i64 d.ty, un, uu, ut, ur] := by injection e
    exact congrArg Array.toList this
  obtain ⟨a3, c3, rfl, hc3, _⟩ := id g1
  obtain ⟨a4, c4, rfl, _⟩ := g2
  obtain ⟨a5, c5, rfl, _⟩ := nmAt_sl.1 g3
  obtain ⟨a6, c6, rfl, _⟩ := g4
  rw [gl] at e' g1 hc3
  exact ⟨a3, c3, (a4, _, c4), (a5, _, c5), (a6, _, c6), vs, e', g1, gl, hc3, fun j h1 _ => g5 j h1⟩
def TgtPost (w : World) (l : List Nm) (e : Ending) (w' : World) : Prop := ∃ v, e = .returned v ∧ OwnNms w' w.heap.size v l ∧ Below w.heap.size w w'
set_option maxRecDepth 100000 in
set_option maxHeartbeats 16000000 in
theorem rset_Targets (a0 : Option Addr) (n0 c0 : Nat) (ty t1 : Int) (v1 : Option Addr) (n c : Nat) (css : List (List Value)) (ds : List Dat) (w : World) (hA : SlK w (.slice v1 n c) css) (hR : Dts w css ds) (hOK : ∀ r ∈ ds, DatOK r) (hl : n ≤ 1048576) :
    Calls Try.prog 15 #[.agg #[.slice a0 n0 c0, .int .i64 ty, .int .u32 t1, .slice v1 n c]] w (TgtPost w (targetsM ty ds)) := by
  by_cases hty : ty = 2 ∨ ty = 5 ∨ ty = 12 ∨ ty = 39 ∨ ty = 15
  · have HT : Hid (targetsM ty ds = tgtM ds) := Lib.hid (by unfold targetsM; rw [if_pos hty])
    rw [HT.out]
    obtain ⟨hln, hx⟩ : css.length = n ∧ n ≤ c := by
      obtain ⟨a', c', e, h1, _⟩ := id hA
      cases e; exact ⟨rfl, h1⟩
    have HA := Lib.hid hA; have HR := Lib.hid hR; have HOK := Lib.hid hOK; have HLN := Lib.hid hln
    have HDL := Lib.hid (show ds.length = n by rw [← hR.1]; exact hln)
    have HB0 := Lib.hid ((Below.refl w.heap.size w).alloc (Nat.le_refl _) (.cells #[.slice a0 n0 c0, .int .i64 ty, .int .u32 t1, .slice v1 n c] 40))
    clear hA hR hOK hln HT
    rcases hty with rfl | rfl | rfl | rfl | rfl
    all_goals
      go_enter Try.func15, Try.ntmps15
      go_wp2
      go_loopw [3, 17] (fun v3 vi wr => ∃ (k : Nat) (ga : Option Addr) (gn gc : Nat), v3 = .slice ga gn gc ∧ vi = .int .i64 k ∧ k ≤ n ∧ Hid (OwnNms wr w.heap.size (.slice ga gn gc) (tgtM (ds.take k))) ∧ Hid (Below w.heap.size w wr)) (fun _ vi _ => n - (intOf vi).toNat)
      case atStart => exact ⟨0, none, 0, 0, rfl, rfl, Nat.zero_le _, Lib.hid (OwnNms.nil _ _), HB0⟩
      case round =>
        obtain ⟨k, ga, gn, gc, rfl, rfl, hk, HO, HB⟩ := hrel
        by_cases hlt : k < n
        · have hltz : (k : Int) < (n : Int) := by omega
          have hk1 : k < css.length := by have := HLN.out; omega
          have hk2 : k < ds.length := by have := HDL.out; omega
          obtain ⟨b, off, rfl, hb, hel⟩ := HA.out.elem5 HR.out.ck (by omega)
          have h0 := (HR.out.2 k hk1 hk2).2
          have hok := HOK.out _ (List.getElem_mem hk2)
          have htk := tgtM_take hk2
          obtain ⟨d, hd⟩ : ∃ d, ds[k]'hk2 = d := ⟨_, rfl⟩
          rw [hd] at h0 hok htk
          obtain ⟨an, cn, ⟨p4, q4, r4⟩, ⟨p5, q5, r5⟩, ⟨p6, q6, r6⟩, vs, e0, s1, sl, hcn, s2⟩ := dt_shape2 h0
          simp only at e0
          obtain ⟨c0', c1, c2, c3, c4⟩ := hel k hk1 _ _ _ _ _ e0 wr HB.out
          obtain ⟨nn, hnn⟩ : ∃ m, d.names.length = m := ⟨_, rfl⟩
          rw [hnn] at e0 s1 sl hcn c1
          have HBB := Lib.hid (HB.out.alloc HB.out.size (.cells #[.int .i64 d.ty, .slice an nn cn, .slice p4 q4 r4, .slice p5 q5 r5, .slice p6 q6 r6] 31))
          have HTK := Lib.hid htk
          by_cases hz : nn = 0
          · have hzz : ¬ (0 : Int) < (nn : Int) := by omega
            have hzn : ¬ 0 < nn := by omega
            have HE : Hid (tgtM (ds.take (k + 1)) = tgtM (ds.take k)) := Lib.hid (by
              rw [HTK.out, show d.names = [] from List.eq_nil_of_length_eq_zero (by omega)]; simp)
            have HO2 : Hid (OwnNms (wr.alloc (.cells #[.int .i64 d.ty, .slice an nn cn, .slice p4 q4 r4, .slice p5 q5 r5, .slice p6 q6 r6] 31)) w.heap.size (.slice ga gn gc) (tgtM (ds.take (k + 1)))) := Lib.hid (by rw [HE.out]; exact HO.out.below ((Below.refl _ wr).alloc (Nat.le_refl _) _))
            clear h0 hok htk hd e0 s1 sl s2 hk1 hk2 hel hz HO HB HTK hnn hcn
            go_wp2
            go_roundw
            case measure => simp [intOf]; omega
            case rel => exact ⟨k + 1, ga, gn, gc, rfl, by go_num, by omega, HO2, HBB⟩
          · have hzz : (0 : Int) < (nn : Int) := by omega
            have hzn : 0 < nn := by omega
            have hj0 : 0 < vs.length := by omega
            obtain ⟨b2, off2, rfl, hb2, hcell⟩ := s1.cell (HBB.out.trans (Below.refl _ _)) 0 hj0
            have hnm := s2 0 hj0 (by omega)
            have hnmr := hnm.below HBB.out
            obtain ⟨nm, hnm1⟩ : ∃ nm, d.names[0]'(by omega) = nm := ⟨_, rfl⟩
            have hokn : NmOK nm := by rw [← hnm1]; exact hok.2.2.1 _ (List.getElem_mem _)
            have HHD : Hid (d.names.head?.toList = [nm]) := Lib.hid (by
              rw [← hnm1, List.head?_eq_getElem?, List.getElem?_eq_getElem (by omega)]; rfl)
            rw [hnm1] at hnm hnmr
            obtain ⟨av, cv, ev, -⟩ := nmAt_sl.1 hnm
            rw [ev] at hcell hnmr
            obtain ⟨m, hm⟩ : ∃ m, (List.map strV nm).length = m := ⟨_, rfl⟩
            rw [hm] at hcell hnmr
            have hc0 := clone_Name (.slice av m cv) nm _ hnmr.1 hnmr.2 (by have := hokn.1; omega)
            rw [Nat.add_zero] at hcell
            have HGL := Lib.hid (show (tgtM (ds.take k)).length ≤ 1048576 by have := tgtM_len (ds.take k); rw [List.length_take] at this; omega)
            have HO1 := Lib.hid (HO.out.below ((Below.refl _ wr).alloc (Nat.le_refl _) (.cells #[.int .i64 d.ty, .slice (some ⟨b2, off2, none⟩) nn cn, .slice p4 q4 r4, .slice p5 q5 r5, .slice p6 q6 r6] 31)))
            clear h0 hok htk hd e0 s1 sl s2 hk1 hk2 hel hz HO HB hnm hnmr hokn ev hm hnm1 hnn hj0
            go_wp2_with fail
            refine hc0.mono ?_
            rintro e w2 ⟨v', rfl, hown, hbb2⟩
            have HB2 := Lib.hid (HBB.out.trans (hbb2.mono HBB.out.size))
            obtain ⟨a2, c2', rfl⟩ := hown.shape
            obtain ⟨m2, hm2⟩ : ∃ m, nm.length = m := ⟨_, rfl⟩
            obtain ⟨vs', hv1, hv2, hv3⟩ := HO1.out.below hbb2
            have hown' : OwnG 9 strV w2 w.heap.size (slEnc (a2, m2, c2')) nm := by rw [← hm2]; exact hown.weaken HBB.out.size
            obtain ⟨ga', gc', eg⟩ := hv1.shape
            have HV := Lib.hid (And.intro hv2 hv3)
            have HOWN := Lib.hid hown'
            have HC := Lib.hid (show [Value.slice a2 m2 c2'] = [((a2, m2, c2') : SlV)].map slEnc from rfl)
            have hz2 := HB2.out.size
            have HVK := Lib.hid (show vs'.length ≤ 1048576 by rw [hv2]; exact HGL.out)
            rw [hm2]
            clear hv2 hv3 hown hown' hm2 hbb2 hc0 hcell eg
            go_wp2_with (at_builtin; refine wpl_append_g w2 rfl (.tmp 25) (.tmp 31) elemNames rfl slEnc_one w.heap.size (.slice ga gn gc) vs' rfl hv1 [.slice a2 m2 c2'] [((a2, m2, c2') : SlV)] HC.out 1 1 rfl rfl hz2 (by have := HVK.out; unfold maxLen; simp; omega) (by have := HVK.out; simp; omega) ?_; intro v3 w3 hown3 hg3)
            have HO3 : Hid (OwnNms w3 w.heap.size v3 (tgtM (ds.take (k + 1)))) := by
              rw [HTK.out, HHD.out]
              exact Lib.hid (OwnNms.snoc hv1 HV.out.1 HV.out.2 HOWN.out hown3 hg3)
            have HB3 := Lib.hid (HB2.out.grown hg3 hz2 hv1.base_le)
            obtain ⟨a3, c3', rfl⟩ := hown3.shape
            clear hown3 hg3 hv1
            go_roundw
            case measure => simp [intOf]; omega
            case rel => exact ⟨k + 1, a3, _, c3', rfl, by go_num, by omega, HO3, HB3⟩
        · obtain rfl : k = n := by omega
          have h := HO.out
          rw [List.take_of_length_le (by have := HDL.out; omega)] at h
          have HH := Lib.hid h
          clear h HO
          go_wp2
          go_ret
          exact ⟨_, rfl, HH.out, HB.out⟩
  · have HT : Hid (targetsM ty ds = []) := Lib.hid (by unfold targetsM; rw [if_neg hty])
    rw [HT.out]
    have h1 : (ty == 2) = false := by simp; omega
    have h2 : (ty == 5) = false := by simp; omega
    have h3 : (ty == 12) = false := by simp; omega
    have h4 : (ty == 39) = false := by simp; omega
    have h5 : (ty == 15) = false := by simp; omega
    have HB0 := Lib.hid ((Below.refl w.heap.size w).alloc (Nat.le_refl _) (.cells #[.slice a0 n0 c0, .int .i64 ty, .int .u32 t1, .slice v1 n c] 40))
    clear hty hA hR hOK HT
    go_enter Try.func15, Try.ntmps15
    go_wp2
    go_ret
    exact ⟨_, rfl, OwnNms.nil _ _, HB0.out⟩
end Go.Proofs.Ytfcdajldpnomfaa

/-
  law5.Few: are records few, and short.
-/
namespace Go.Proofs.Ytfcdajldpnomfaa
set_option maxRecDepth 20000
open Go.RowKit Go.Shelf
set_option maxRecDepth 20000
set_option linter.unusedVariables false
set_option linter.unusedSimpArgs false

/-- A record among a law's arguments. -/
def RcArg (W : World) (cs : List Value) (r : Rc) : Prop :=
  ∃ vo vn vu vt vr, cs = [vo, .int .u32 (r.ttl : Int), .int .i64 r.data.ty, vn, vu, vt, vr] ∧ NmArg W vo r.owner ∧ DatArg W (.agg #[.int .i64 r.data.ty, vn, vu, vt, vr]) r.data ∧ r.ttl < 2 ^ 32
theorem RcArg.rcAt {W : World} {cs : List Value} {r : Rc} (h : RcArg W cs r) : RcAt W cs r := by
  obtain ⟨vo, vn, vu, vt, vr, e, h1, h2, _⟩ := h
  exact ⟨vo, vn, vu, vt, vr, e, h1.1, h2.1⟩
def fewR (r : Rc) : Bool := fewN r.owner && fewD r.data
theorem RcArg.ok {W : World} {cs : List Value} {r : Rc} (h : RcArg W cs r) (hf : fewR r = true) : RcOK r := by
  obtain ⟨vo, vn, vu, vt, vr, e, h1, h2, h3⟩ := h
  simp only [fewR, Bool.and_eq_true] at hf
  exact ⟨fewN_ok hf.1, h3, fewD_ok h2 hf.2⟩
def fewRs (l : List Rc) : Bool := decide (l.length ≤ 60) && l.all fewR
theorem all_step {l : List Rc} {k : Nat} (h : k < l.length) : (l.drop k).all fewR = (fewR l[k] && (l.drop (k + 1)).all fewR) := by
  rw [List.drop_eq_getElem_cons h]; rfl

set_option maxRecDepth 100000 in
set_option maxHeartbeats 8000000 in
theorem law5_Few (v : Value) (css : List (List Value)) (l : List Rc) (w0 w : World) (hA : SlK w0 v css) (hR : css.length = l.length ∧ ∀ i (h1 : i < css.length) (h2 : i < l.length), RcArg w0 css[i] l[i]) (hwz : Below w0.heap.size w0 w) :
    Calls Try.prog 10 #[v] w fun e w' => e = .returned (.bool (fewRs l)) ∧ Below w.heap.size w w' := by
  obtain ⟨a, c, rfl, hc1, -, -⟩ := id hA
  obtain ⟨n, hn⟩ : ∃ n, css.length = n := ⟨_, rfl⟩
  rw [hn] at hA hc1 ⊢
  have HA := Lib.hid hA; have HR := Lib.hid hR; have HWZ := Lib.hid hwz; have HLN := Lib.hid hn
  have HLL := Lib.hid (show l.length = n by rw [← hn]; exact hR.1.symm)
  obtain ⟨res, hres⟩ : ∃ r, fewRs l = r := ⟨_, rfl⟩
  rw [hres]
  have HRES := Lib.hid hres
  clear hA hR hwz hn hres
  by_cases h60 : 60 < n
  · have h60z : (60 : Int) < (n : Int) := by omega
    have HE : Hid (res = false) := Lib.hid (by
      rw [← HRES.out]; unfold fewRs
      rw [decide_eq_false (by have := HLL.out; omega)]; rfl)
    go_enter Try.func10, Try.ntmps10
    go_wp2
    go_ret
    exact ⟨by rw [HE.out]; rfl, Below.refl _ _⟩
  · have h60z : ¬ (60 : Int) < (n : Int) := by omega
    have HE0 : Hid (res = l.all fewR) := Lib.hid (by
      rw [← HRES.out]; unfold fewRs
      rw [decide_eq_true (by have := HLL.out; omega)]; rfl)
    go_enter Try.func10, Try.ntmps10
    go_wp2
    go_loopw [3] (fun vi wr => ∃ (k : Nat), vi = .int .i64 k ∧ k ≤ n ∧ Hid (res = (l.drop k).all fewR) ∧ Hid (Below w.heap.size w wr)) (fun vi _ => n - (intOf vi).toNat)
    case atStart => exact ⟨0, rfl, Nat.zero_le _, Lib.hid HE0.out, Lib.hid (Below.refl _ _)⟩
    case round =>
      obtain ⟨k, rfl, hk, HC, HB⟩ := hrel
      by_cases hlt : k < n
      · have hltz : (k : Int) < (n : Int) := by omega
        have hk1 : k < css.length := by have := HLN.out; omega
        have hk2 : k < l.length := by have := HLL.out; omega
        have hck : ∀ cs ∈ css, cs.length = 7 := fun cs hc => by
          obtain ⟨i, hi, rfl⟩ := List.mem_iff_getElem.1 hc
          exact (HR.out.2 i hi (by have := HR.out.1; omega)).rcAt.len
        obtain ⟨b, off, rfl, hb, hel⟩ := HA.out.elem hck (by omega)
        have hbz : Below w0.heap.size w0 wr := HWZ.out.trans (HB.out.mono HWZ.out.size)
        have h0 := HR.out.2 k hk1 hk2
        have hst := all_step hk2
        obtain ⟨r, hr⟩ : ∃ r, l[k]'hk2 = r := ⟨_, rfl⟩
        rw [hr] at h0 hst
        clear hr
        obtain ⟨⟨p0, q0, r0⟩, ⟨p3, q3, r3⟩, ⟨p4, q4, r4⟩, ⟨p5, q5, r5⟩, ⟨p6, q6, r6⟩, e0⟩ := h0.rcAt.shape
        simp only at e0
        obtain ⟨c0, c1, c2, c3, c4, c5, c6⟩ := hel k hk1 _ _ _ _ _ _ _ e0 wr hbz
        have HEL := Lib.hid (fun W hb => hel k hk1 _ _ _ _ _ _ _ e0 W hb)
        rw [e0] at h0
        obtain ⟨_, _, _, _, _, e5, g1, g2, _⟩ := h0
        simp only [List.cons.injEq, and_true, true_and] at e5
        obtain ⟨rfl, rfl, rfl, rfl, rfl⟩ := e5
        obtain ⟨fn1, hf1⟩ : ∃ b, fewN r.owner = b := ⟨_, rfl⟩
        obtain ⟨fn2, hf2⟩ : ∃ b, fewD r.data = b := ⟨_, rfl⟩
        have hkf := kn_Few _ r.owner _ hf1 w0 wr g1 (g1.1.below hbz)
        have HDF := Lib.hid (fun W (hb : Below w0.heap.size w0 W) => law4_Few _ r.data W ⟨g2.1.below hb, g2.2⟩)
        rw [hf2] at HDF
        have HC2 : Hid (res = ((fn1 && fn2) && (l.drop (k + 1)).all fewR)) := Lib.hid (by rw [HC.out, hst]; unfold fewR; rw [hf1, hf2])
        have HBZ := Lib.hid hbz
        clear hst hf1 hf2 g1 g2 hbz hel e0 hck HC hk1 hk2
        cases fn1
        · have HE : Hid (res = false) := Lib.hid (by rw [HC2.out]; rfl)
          clear HC2
          go_wp2_with fail
          refine hkf.mono ?_
          rintro e w2 ⟨rfl, hb2⟩
          have HB2 := Lib.hid (HB.out.trans (hb2.mono HB.out.size))
          clear hb2 hkf
          go_wp2
          go_ret
          exact ⟨by rw [HE.out]; rfl, HB2.out⟩
        · go_wp2_with fail
          refine hkf.mono ?_
          rintro e w2 ⟨rfl, hb2⟩
          have HB2 := Lib.hid (HB.out.trans (hb2.mono HB.out.size))
          have hb0 : Below w0.heap.size w0 w2 := HBZ.out.trans (hb2.mono HBZ.out.size)
          obtain ⟨d0, d1, d2, d3, d4, d5, d6⟩ := HEL.out w2 hb0
          have hdf := HDF.out w2 hb0
          clear hb2 hkf hb0 c0 c1 c2 c3 c4 c5 c6 HEL HDF
          go_wp2_with fail
          refine hdf.mono ?_
          rintro e w3 ⟨rfl, hb3⟩
          have HB3 := Lib.hid (HB2.out.trans (hb3.mono HB2.out.size))
          clear hb3 hdf d0 d1 d2 d3 d4 d5 d6
          cases fn2
          · have HE : Hid (res = false) := Lib.hid (by rw [HC2.out]; rfl)
            clear HC2
            go_wp2
            go_ret
            exact ⟨by rw [HE.out]; rfl, HB3.out⟩
          · have HE : Hid (res = (l.drop (k + 1)).all fewR) := Lib.hid (by rw [HC2.out]; rfl)
            clear HC2
            go_wp2
            go_roundw
            case measure => simp [intOf]; omega
            case rel => exact ⟨k + 1, by go_num, by omega, HE, HB3⟩
      · obtain rfl : k = n := by omega
        have HE : Hid (res = true) := Lib.hid (by
          rw [HC.out, List.drop_of_length_le (by have := HLL.out; omega)]; rfl)
        clear HC
        go_wp2
        go_ret
        exact ⟨by rw [HE.out]; rfl, HB.out⟩
end Go.Proofs.Ytfcdajldpnomfaa

/-
  The opening of arguments of types rdata.Data, rec.Rec, []rec.Rec.
-/
namespace Go.Proofs.Ytfcdajldpnomfaa
set_option maxRecDepth 20000
open Go Go.ChangeShapes Go.WideShapes Go.ChangeAt Go.RowKit Go.Shelf
set_option maxRecDepth 20000
theorem sl_row {W : World} {x : Addr} {l c : Nat} (f : Nat → Value) (hl : l ≤ c) (hcell : ∀ i, i < c → W.cell? (x.add i) = some (f i)) : SlAt W (.slice (some x) l c) ((List.range l).map f) := by
  refine ⟨some x, c, by simp, by simpa using hl, by simp, ?_⟩
  by_cases h0 : l = 0
  · subst h0; left; simp
  · right
    obtain ⟨b, off, spot⟩ := x
    have hspot : spot = none := by simpa [Addr.add] using World.cell?_spot (hcell 0 (by omega))
    subst hspot
    have hb : b < W.heap.size := by
      have h := hcell 0 (by omega)
      exact World.block_lt_of_cell? W _ (by simpa [Addr.add] using h : W.cell? ⟨b, off, none⟩ = some (f 0))
    refine ⟨b, off, rfl, hb, fun j hj => ?_⟩
    rw [List.length_map, List.length_range] at hj
    rw [← Go.WideShapes.add_plain, hcell j (by omega)]
    simp
theorem ints_row {W : World} {k : IntKind} {x : Addr} {l c : Nat} {zs : List Int} (hl : l ≤ c) (hz : zs.length = c) (hcell : ∀ i, i < zs.length → W.cell? (x.add i) = some (.int k (zs.getD i 0))) : SlAt W (.slice (some x) l c) ((zs.take l).map fun z => .int k z) := by
  have h := sl_row (fun i => Value.int k (zs.getD i 0)) hl (fun i hi => hcell i (by omega))
  have e : (List.range l).map (fun i => Value.int k (zs.getD i 0)) = (zs.take l).map fun z => Value.int k z := by
    apply List.ext_getElem
    · simp; omega
    · intro i h1 h2
      simp only [List.length_map, List.length_range] at h1
      have : i < zs.length := by omega
      simp [List.getD, this]
  rwa [e] at h
variable {H : Type} {enc : TypeId × Value → H} {W : World}
theorem cells3 : Try.prog.cellsOf 3 = 1 ∧ Try.prog.cellsOf 26 = 1 ∧ Try.prog.cellsOf 27 = 1 ∧ Try.prog.cellsOf 28 = 1 ∧ Try.prog.cellsOf 29 = 1 ∧ Try.prog.cellsOf 31 = 5 ∧ Try.prog.cellsOf 38 = 1 ∧ Try.prog.cellsOf 9 = 1 ∧ Try.prog.cellsOf 37 = 1 ∧ Try.prog.cellsOf 5 = 1 :=
  ⟨by kernel_rfl, by kernel_rfl, by kernel_rfl, by kernel_rfl, by kernel_rfl, by kernel_rfl, by kernel_rfl, by kernel_rfl, by kernel_rfl, by kernel_rfl⟩
theorem open_nm {t : TypeId} (ht : Try.prog.underlying t = some (.slice 9)) {fuel : Nat} {v : Value} {x : DataW H × List MemPlace} (hf : DataW.trod enc Try.prog W 0 (fun _ => true) true fuel t [v] = some x) : ∃ zs, NmArg W v zs := by
  rcases Go.ChangeShapes.open_strings ht Try.underlying9 (by kernel_rfl) hf with ⟨hcs, _⟩ | ⟨x, l, c, zs, hcs, _, hl, hm, hz, _, hcell, hwz⟩
  · simp at hcs
    subst hcs
    exact ⟨[], nmArg_nil W⟩
  · simp at hcs
    subst hcs
    exact ⟨_, nmArg_row hl hm (by simpa using hz) hcell hwz⟩
theorem open_nms {fuel : Nat} {v : Value} {x : DataW H × List MemPlace} (hf : DataW.trod enc Try.prog W 0 (fun _ => true) true fuel 26 [v] = some x) : ∃ ns : List Nm, NmsAt W v ns ∧ ∀ n ∈ ns, n.length ≤ maxLen ∧ ∀ y ∈ n, y.length ≤ maxLen := by
  rcases Go.Deep.open_slice1 Try.underlying26 (by kernel_rfl) hf with ⟨hcs, _⟩ | ⟨a, len, cap, m, n, V, D, Pl, hcs, _, hl, hm, hmm, _, hV⟩
  · simp at hcs
    subst hcs
    exact ⟨[], NmsAt.nil W, by simp⟩
  · simp at hcs
    subst hcs
    simp only [if_true] at hmm
    subst hmm
    obtain ⟨F, hF⟩ := Go.Deep.choose_lt (α := Nm) (p := fun i z => NmArg W (V i) z) (fun i hi => open_nm Try.underlying38 (hV i hi).2)
    refine ⟨(List.range len).map F, ⟨(List.range len).map V, sl_row V hl (fun i hi => (hV i hi).1), by simp, fun j hj => ?_⟩, ?_⟩
    · simp only [List.length_map, List.length_range] at hj
      simpa using (hF j (by omega)).1
    · intro n hn
      obtain ⟨i, hi, rfl⟩ := List.mem_map.1 hn
      exact (hF i (by have := List.mem_range.1 hi; omega)).2
theorem wf_u32 {n : Int} (h : (Lit.int .u32 n).wf = true) : 0 ≤ n ∧ n < 2 ^ 32 := by
  simp [Lit.wf] at h
  have e1 : IntKind.u32.min = 0 := by decide
  have e2 : IntKind.u32.max = 4294967295 := by decide
  omega
theorem wf_u8 {n : Int} (h : (Lit.int .u8 n).wf = true) : 0 ≤ n ∧ n < 256 := by
  simp [Lit.wf] at h
  have e1 : IntKind.u8.min = 0 := by decide
  have e2 : IntKind.u8.max = 255 := by decide
  omega
theorem wf_i64 {n : Int} (h : (Lit.int .i64 n).wf = true) : -(2 ^ 63) ≤ n ∧ n < 2 ^ 63 := by
  simp [Lit.wf] at h
  have e1 : IntKind.i64.min = -9223372036854775808 := by decide
  have e2 : IntKind.i64.max = 9223372036854775807 := by decide
  omega
theorem open_u32s {fuel : Nat} {v : Value} {x : DataW H × List MemPlace} (hf : DataW.trod enc Try.prog W 0 (fun _ => true) true fuel 27 [v] = some x) : ∃ ns : List Nat, SlAt W v (ns.map u32V) ∧ ∀ n ∈ ns, n < 2 ^ 32 := by
  rcases open_ints Try.underlying27 Try.underlying37 (by kernel_rfl) hf with ⟨hcs, _⟩ | ⟨a, l, c, zs, hcs, _, hl, hm, hz, _, hcell, hw⟩
  · simp at hcs
    subst hcs
    exact ⟨[], SlAt.nil W, by simp⟩
  · simp at hcs
    subst hcs
    refine ⟨(zs.take l).map Int.toNat, ?_, ?_⟩
    · have h := ints_row hl (by simpa using hz) hcell
      have e : ((zs.take l).map Int.toNat).map u32V = (zs.take l).map fun z => Value.int .u32 z := by
        rw [List.map_map]
        apply List.map_congr_left
        intro z hz
        have := wf_u32 (hw z (List.mem_of_mem_take hz))
        show Value.int .u32 ((z.toNat : Nat) : Int) = _
        rw [Int.toNat_of_nonneg this.1]
      rw [e]; exact h
    · intro n hn
      obtain ⟨z, hz, rfl⟩ := List.mem_map.1 hn
      have := wf_u32 (hw z (List.mem_of_mem_take hz))
      omega
theorem open_u8s {fuel : Nat} {v : Value} {x : DataW H × List MemPlace} (hf : DataW.trod enc Try.prog W 0 (fun _ => true) true fuel 29 [v] = some x) : ∃ ns : List UInt8, SlAt W v (ns.map bv) := by
  rcases open_ints Try.underlying29 Try.underlying5 (by kernel_rfl) hf with ⟨hcs, _⟩ | ⟨a, l, c, zs, hcs, _, hl, hm, hz, _, hcell, hw⟩
  · simp at hcs
    subst hcs
    exact ⟨[], SlAt.nil W⟩
  · simp at hcs
    subst hcs
    refine ⟨(zs.take l).map fun z => UInt8.ofNat z.toNat, ?_⟩
    have h := ints_row hl (by simpa using hz) hcell
    have e : ((zs.take l).map fun z => UInt8.ofNat z.toNat).map bv = (zs.take l).map fun z => Value.int .u8 z := by
      rw [List.map_map]
      apply List.map_congr_left
      intro z hz
      have := wf_u8 (hw z (List.mem_of_mem_take hz))
      show Value.int .u8 ((UInt8.ofNat z.toNat).toNat : Int) = _
      congr 1
      simp
      omega
    rw [e]; exact h
theorem open_data {fuel : Nat} {cs : List Value} {x : DataW H × List MemPlace} (hf : DataW.trod enc Try.prog W 0 (fun _ => true) true fuel 31 cs = some x) : ∃ d, DatArg W (.agg cs.toArray) d := by
  obtain ⟨k1, k2, k3, k4, k5, k6, _⟩ := cells3
  obtain ⟨xs, n, _, _, hl, hx, hfd⟩ := DataW.trod_struct Try.underlying31 hf
  rw [k6] at hl
  match cs, hl with
  | [c0, c1, c2, c3, c4], _ =>
  match xs, hx with
  | [y0, y1, y2, y3, y4], _ =>
  have h0 : DataW.trod enc Try.prog W 0 (fun _ => true) true n 3 (List.take (Try.prog.cellsOf 3) (List.drop 0 [c0, c1, c2, c3, c4])) = some y0 := hfd 0 _ rfl
  rw [k1] at h0
  replace h0 : DataW.trod enc Try.prog W 0 (fun _ => true) true n 3 [c0] = some y0 := h0
  have h1 : DataW.trod enc Try.prog W 0 (fun _ => true) true n 26 (List.take (Try.prog.cellsOf 26) (List.drop 1 [c0, c1, c2, c3, c4])) = some y1 := hfd 1 _ rfl
  rw [k2] at h1
  replace h1 : DataW.trod enc Try.prog W 0 (fun _ => true) true n 26 [c1] = some y1 := h1
  have h2 : DataW.trod enc Try.prog W 0 (fun _ => true) true n 27 (List.take (Try.prog.cellsOf 27) (List.drop 2 [c0, c1, c2, c3, c4])) = some y2 := hfd 2 _ rfl
  rw [k3] at h2
  replace h2 : DataW.trod enc Try.prog W 0 (fun _ => true) true n 27 [c2] = some y2 := h2
  have h3 : DataW.trod enc Try.prog W 0 (fun _ => true) true n 28 (List.take (Try.prog.cellsOf 28) (List.drop 3 [c0, c1, c2, c3, c4])) = some y3 := hfd 3 _ rfl
  rw [k4] at h3
  replace h3 : DataW.trod enc Try.prog W 0 (fun _ => true) true n 28 [c3] = some y3 := h3
  have h4 : DataW.trod enc Try.prog W 0 (fun _ => true) true n 29 (List.take (Try.prog.cellsOf 29) (List.drop 4 [c0, c1, c2, c3, c4])) = some y4 := hfd 4 _ rfl
  rw [k5] at h4
  replace h4 : DataW.trod enc Try.prog W 0 (fun _ => true) true n 29 [c4] = some y4 := h4
  obtain ⟨ty, e0, _, w0⟩ := DataW.trod_int Try.underlying3 h0
  obtain ⟨ns, n1, n2⟩ := open_nms h1
  obtain ⟨us, u1, u2⟩ := open_u32s h2
  obtain ⟨ts, t1⟩ := open_nm Try.underlying28 h3
  obtain ⟨rs, r1⟩ := open_u8s h4
  simp at e0
  subst e0
  exact ⟨⟨ty, ns, us, ts, rs⟩, ⟨c1, c2, c3, c4, rfl, n1, u1, t1.1, r1⟩, wf_i64 w0, n2, u2, t1.2.2⟩
/-- A law's row from its walk, over laid variables, the world's shape handed on. -/
theorem returnsInHanded_and_shaped {a : Assume} {C : Checked} {os : Os} {f : FuncId} {fn : Func} {s : ChangeSpec} {conds : List PathCond} {apart fresh handsOn again : Bool} {X : World → Array Value → Prop}
    (hX : ∀ (w w' : World) (args : Array Value), w.heap = w'.heap → X w args → X w' args)
    (own : ownKnob C.prog.godebug = none) (started : os.Started) (noInit : C.prog.inits.idxOf? f = none) (hfn : C.prog.funcs[f]? = some fn)
    (witness : ∃ (w : World) (tape : Tape) (i : Input), w.os = os ∧ (w.forCall tape i).Shaped C.prog ∧ i.vars = [] ∧ Input.okWide C.prog (w.forCall tape i) .any w.heap.size f i ∧
      ((s.pre enc C.prog fn conds apart (w.forCall tape i).memory i.args ∧ X (w.forCall tape i).memory i.args) ∧ sizedMet enc C.prog fn (OpenSpec.ofChange s) apart (w.forCall tape i).memory i.args) ∧ a.holds C.prog (lone (Frame.enter C.prog f i.args .normal) [] (w.forCall tape i)))
    (contract : ∀ (W : World) (base : Nat) (args : Array Value) (ds gs : List (DataW H)) (before : List MemPlace),
      (∀ (j : Nat) t v, fn.params[j]? = some t → args[j]? = some v → Value.okWide C.prog W .any base t v) →
      DataW.Whole enc C.prog fn.params.toList s.vars apart W args.toList ds gs before →
      conds.all (PathCond.test C.prog ⟨fn.params.toList, ds, s.plain.varTypes C.prog, gs⟩) = true →
      (DataW.weightsEach C.prog (fn.params.toList ++ s.plain.varTypes C.prog) (ds ++ gs)).all (· ≤ reachBytes) = true → X W args →
      W.ShapedOpen C.prog →
      a.holds C.prog (lone (Frame.enter C.prog f args .normal) [] W) →
      Calls C.prog f args W fun e W' => ∃ v, e = .returned v ∧ s.post enc C.prog fn apart fresh handsOn again W args v W') :
    ReturnsInHanded a C os f .any (fun w args => (s.pre enc C.prog fn conds apart w args ∧ X w args) ∧ sizedMet enc C.prog fn (OpenSpec.ofChange s) apart w args) (s.post enc C.prog fn apart fresh handsOn again) := by
  refine returnsInHanded_of_calls own started noInit witness ?_
  intro w tape i _ hsh _ hok hpre hholds
  obtain ⟨_, _, _, fn', hfn', _, _, _, _, hval⟩ := hok
  obtain rfl : fn' = fn := Option.some.inj (hfn'.symm.trans hfn)
  obtain ⟨⟨⟨ds, gs, before, hw, hc⟩, hx⟩, hz⟩ := hpre
  have hw' := DataW.Whole.of_heap (w' := w.forCall tape i) (by rfl) hw
  refine (contract (w.forCall tape i) w.heap.size i.args ds gs before hval hw' hc (hz.weights hw) (hX _ _ _ (by rfl) hx) hsh hholds).mono fun e W' ⟨v, he, hp⟩ => ?_
  subst he
  exact ChangeSpec.post_blind hp
theorem cellsRec : Try.prog.cellsOf 53 = 7 := by kernel_rfl
theorem open_rec {fuel : Nat} {cs : List Value} {x : DataW H × List MemPlace} (hf : DataW.trod enc Try.prog W 0 (fun _ => true) true fuel 53 cs = some x) : ∃ r, RcArg W cs r := by
  obtain ⟨k1, k2, k3, k4, k5, k6, k7, k8, k9, _⟩ := cells3
  obtain ⟨xs, n, _, _, hl, hx, hfd⟩ := DataW.trod_struct Try.underlying53 hf
  rw [cellsRec] at hl
  match cs, hl with
  | [c0, c1, c2, c3, c4, c5, c6], _ =>
  match xs, hx with
  | [y0, y1, y2], _ =>
  have h0 : DataW.trod enc Try.prog W 0 (fun _ => true) true n 38 (List.take (Try.prog.cellsOf 38) (List.drop 0 [c0, c1, c2, c3, c4, c5, c6])) = some y0 := hfd 0 _ rfl
  rw [k7] at h0
  replace h0 : DataW.trod enc Try.prog W 0 (fun _ => true) true n 38 [c0] = some y0 := h0
  have h1 : DataW.trod enc Try.prog W 0 (fun _ => true) true n 37 (List.take (Try.prog.cellsOf 37) (List.drop 1 [c0, c1, c2, c3, c4, c5, c6])) = some y1 := hfd 1 _ rfl
  rw [k9] at h1
  replace h1 : DataW.trod enc Try.prog W 0 (fun _ => true) true n 37 [c1] = some y1 := h1
  have h2 : DataW.trod enc Try.prog W 0 (fun _ => true) true n 31 (List.take (Try.prog.cellsOf 31) (List.drop 2 [c0, c1, c2, c3, c4, c5, c6])) = some y2 := hfd 2 _ rfl
  rw [k6] at h2
  replace h2 : DataW.trod enc Try.prog W 0 (fun _ => true) true n 31 [c2, c3, c4, c5, c6] = some y2 := h2
  obtain ⟨o, o1⟩ := open_nm Try.underlying38 h0
  obtain ⟨t, e1, _, w1⟩ := DataW.trod_int Try.underlying37 h1
  obtain ⟨d, hd⟩ := open_data h2
  simp at e1
  subst e1
  have ht := wf_u32 w1
  obtain ⟨vn, vu, vt, vr, e, hh⟩ := hd.1
  have e' : [c2, c3, c4, c5, c6] = [Value.int .i64 d.ty, vn, vu, vt, vr] := by
    have : [c2, c3, c4, c5, c6].toArray = #[Value.int .i64 d.ty, vn, vu, vt, vr] := by injection e
    exact congrArg Array.toList this
  simp only [List.cons.injEq, and_true] at e'
  obtain ⟨rfl, rfl, rfl, rfl, rfl⟩ := e'
  refine ⟨⟨o, t.toNat, d⟩, _, _, _, _, _, ?_, o1, hd, by show t.toNat < 2 ^ 32; omega⟩
  show [_, Value.int .u32 t, _, _, _, _, _] = [_, Value.int .u32 ((t.toNat : Nat) : Int), _, _, _, _, _]
  rw [Int.toNat_of_nonneg ht.1]
theorem flatten_at (k : Nat) (k0 : 0 < k) : ∀ (l : List (List Value)), (∀ cs ∈ l, cs.length = k) → ∀ (t : Nat) (u : Value), l.flatten[t]? = some u → ∃ h : t / k < l.length, (l[t / k])[t % k]? = some u
  | [], _, t, u, h => by simp at h
  | x :: r, hk, t, u, h => by
    have hx := hk x (by simp)
    rw [List.flatten_cons] at h
    by_cases ht : t < k
    · rw [List.getElem?_append_left (by omega)] at h
      have e0 : t / k = 0 := Nat.div_eq_of_lt ht
      have e1 : t % k = t := Nat.mod_eq_of_lt ht
      refine ⟨by rw [e0]; simp, ?_⟩
      simp only [e0, e1, List.getElem_cons_zero]
      exact h
    · rw [List.getElem?_append_right (by omega), hx] at h
      obtain ⟨h1, h2⟩ := flatten_at k k0 r (fun cs hc => hk cs (by simp [hc])) (t - k) u h
      have e0 : t / k = (t - k) / k + 1 := by
        rw [Nat.div_eq_sub_div k0 (by omega)]
      have e1 : t % k = (t - k) % k := by
        rw [Nat.mod_eq_sub_mod (by omega)]
      refine ⟨by rw [e0]; simpa using h1, ?_⟩
      simp only [e0, e1, List.getElem_cons_succ]
      exact h2
instance inhRec : Inhabited (List Value × Rc) := ⟨([], Rc.none)⟩
theorem open_recs {fuel : Nat} {v : Value} {x : DataW H × List MemPlace} (hf : DataW.trod enc Try.prog W 0 (fun _ => true) true fuel 43 [v] = some x) :
    ∃ (css : List (List Value)) (l : List Rc), SlK W v css ∧ css.length = l.length ∧ ∀ i (h1 : i < css.length) (h2 : i < l.length), RcArg W css[i] l[i] := by
  rcases Go.Deep.open_slice Try.underlying43 hf with ⟨hcs, _⟩ | ⟨a, len, cap, m, n, D, Pl, hcs, _, hl, hm, hmm, _, hV⟩
  · simp at hcs
    subst hcs
    exact ⟨[], [], SlK.nil W, rfl, fun i h1 => absurd h1 (Nat.not_lt_zero _)⟩
  · simp at hcs
    subst hcs
    simp only [if_true] at hmm
    subst hmm
    rw [cellsRec] at hV
    obtain ⟨F, hF⟩ := Go.Deep.choose_lt (α := List Value × Rc) (p := fun i z => W.cells? 0 (a.add (i * 7)) 7 = some z.1 ∧ RcArg W z.1 z.2) (fun i hi => by
      obtain ⟨cs', h1, h2⟩ := hV i hi
      obtain ⟨r, hr⟩ := open_rec h2
      exact ⟨(cs', r), h1, hr⟩)
    have hlen : ∀ i, i < len → (F i).1.length = 7 := fun i hi => (World.cells?_some (hF i (by omega)).1).2.1
    refine ⟨(List.range len).map fun i => (F i).1, (List.range len).map fun i => (F i).2, ⟨some a, m, by simp, by simpa using hl, (fun e => by cases e), ?_⟩, by simp, fun i h1 h2 => ?_⟩
    · by_cases h0 : len = 0
      · subst h0; left; rfl
      · right
        obtain ⟨b, off, spot⟩ := a
        have hc0 := (World.cells?_some (hF 0 (by omega)).1).2.2 0 (by omega)
        rw [List.getElem?_eq_getElem (by rw [hlen 0 (by omega)]; omega)] at hc0
        have hspot : spot = none := by simpa [Addr.add] using World.cell?_spot hc0
        subst hspot
        have hb : b < W.heap.size := World.block_lt_of_cell? W _ (by simpa [Addr.add] using hc0 : W.cell? ⟨b, off, none⟩ = some _)
        refine ⟨b, off, rfl, hb, fun j u hj => ?_⟩
        obtain ⟨h1, h2⟩ := flatten_at 7 (by omega) _ (fun cs hc => by
          obtain ⟨i, hi, rfl⟩ := List.mem_map.1 hc
          exact hlen i (List.mem_range.1 hi)) j u hj
        have hi : j / 7 < len := by simpa using h1
        rw [List.getElem_map, List.getElem_range] at h2
        have hd : j % 7 < 7 := Nat.mod_lt _ (by omega)
        have hc := (World.cells?_some (hF (j / 7) (by omega)).1).2.2 (j % 7) hd
        rw [h2] at hc
        rw [Addr.add_lit, Addr.add_lit, show off + j / 7 * 7 + j % 7 = off + j by omega] at hc
        exact hc
    · simp only [List.length_map, List.length_range] at h1
      simpa using (hF i (by omega)).2
end Go.Proofs.Ytfcdajldpnomfaa

