import Derived.Deep.Slices
import Derived.Test.YtckammgnmgkieaaGreatMQ35
import Derived.Test.YtckammgnmgkieaaGreatMQ19
namespace Go.Proofs.YtckammgnmgkieaaGreat
set_option maxRecDepth 20000
open Go.RowKit Go.Shelf
def SetR (W : World) (cs : List Value) (s : St) : Prop :=
 ∃ (x0 x3 : Option Addr × Nat × Nat) (ds : List (List Value)), cs = [.slice x0.1 x0.2.1 x0.2.2, .int .i64 s.ty, .int .u32 (s.ttl : Int), .slice x3.1 x3.2.1 x3.2.2] ∧ NmAt W (.slice x0.1 x0.2.1 x0.2.2) s.owner ∧
  SlK W (.slice x3.1 x3.2.1 x3.2.2) ds ∧ ds.length = s.data.length ∧ ∀ j (h1 : j < ds.length) (h2 : j < s.data.length), ds[j].length = 5 ∧ DatAt W (.agg ds[j].toArray) s.data[j]
theorem SetR.below {W W' : World} {cs : List Value} {s : St} (h : SetR W cs s) (hb : Below W.heap.size W W') : SetR W' cs s := by
 obtain ⟨x0, x3, ds, e, h1, h2, h3, h4⟩ := h
 exact ⟨x0, x3, ds, e, h1.below hb, h2.below hb, h3, fun j a b => ⟨(h4 j a b).1, (h4 j a b).2.below hb⟩⟩
def RowS (W : World) (v : Value) (l : List St) : Prop := ∃ csd, SlK W v csd ∧ csd.length = l.length ∧ ∀ j (h1 : j < csd.length) (h2 : j < l.length), SetR W csd[j] l[j]
theorem qk4 (a : Option Addr) (n c : Nat) (w : World) :
 Calls Tryz.prog 61 #[.slice a n c] w fun e w' => e = .returned (.func (.func 110) #[] #[.pointer (some ⟨w.heap.size, 0, none⟩)]) ∧ w' = w.alloc (.cells #[.slice a n c] 22) := by
 go_enter Tryz.func61, Tryz.ntmps61
 go_wp2
 go_ret
 exact ⟨rfl, rfl⟩
def setC (vo : Nat → Option Addr × Nat × Nat) (rs : List Rc) {n : Nat} (x : SegD n) : List Value :=
 [.slice (vo x.1.1.1).1 (vo x.1.1.1).2.1 (vo x.1.1.1).2.2, .int .i64 (rs.getD x.1.1.1 rcZ).data.ty, .int .u32 (ttlS rs x.1.1.1 x.1.1.2 : Int), .slice x.1.2.1 (x.1.1.2 - x.1.1.1) x.1.2.2]
def SOut (N B : Nat) (css : List (List Value)) (vo : Nat → Option Addr × Nat × Nat) (rs : List Rc) {n : Nat} (pre : List (SegD n)) (W : World) : Prop :=
 ∃ v, Boxed W B 30 v ∧ OwnC 4 38 W N v (pre.map fun x => setC vo rs x) ∧ ∀ x ∈ pre, DatO N css x W
theorem DatO.keptO {N : Nat} {css : List (List Value)} {n : Nat} {x : SegD n} {W W' : World} {row : Option Nat} (h : DatO N css x W) (hg : W.grownBy W' row) (hr : ∀ r, row = some r → ∃ o : Obj, W.heap[r]? = some o ∧ o.isCells = false) : DatO N css x W' := OwnC.keptO h hg hr
theorem SOut.below {N B : Nat} {css : List (List Value)} {vo : Nat → Option Addr × Nat × Nat} {rs : List Rc} {n : Nat} {pre : List (SegD n)} {W W' : World} (h : SOut N B css vo rs pre W) (hb : Below W.heap.size W W') : SOut N B css vo rs pre W' := by
 obtain ⟨v, h2, h3, h4⟩ := h
 exact ⟨v, (hb.block B h2.lt).trans h2, OwnK.below h3 hb, fun x hx => OwnK.below (h4 x hx) hb⟩
theorem SOut.snoc {N B : Nat} {css : List (List Value)} {vo : Nat → Option Addr × Nat × Nat} {rs : List Rc} {n : Nat} {pre : List (SegD n)} {x : SegD n} {W W' : World} {v v' : Value} (h2 : Boxed W B 30 v) (h3 : OwnC 4 38 W N v (pre.map fun x => setC vo rs x)) (h4 : ∀ x ∈ pre, DatO N css x W) (hx : DatO N css x W)
 (ho : OwnC 4 38 W' N v' ((pre.map fun x => setC vo rs x) ++ [setC vo rs x])) (hg : W.grownBy W' v.ownBlock) : SOut N B css vo rs (pre ++ [x]) (W'.setCell ⟨B, 0, none⟩ v') := by
 have hne : some B ≠ v.ownBlock := OwnK.ne_block h3 h2 (by decide)
 have hB' : Boxed W' B 30 v := h2.kept hg hne
 have hk : ∀ {y : SegD n}, DatO N css y W → DatO N css y (W'.setCell ⟨B, 0, none⟩ v') := fun {y} h => OwnK.keptB (OwnK.kept2 h h3 (by decide) hg) hB' (by decide) 0 v'
 refine ⟨v', hB'.set v', OwnK.keptB (by rw [List.map_append]; exact ho) hB' (by decide) 0 v', fun y hy => ?_⟩
 rcases List.mem_append.1 hy with hy | hy
 ·exact hk (h4 y hy)
 ·rw [List.mem_singleton] at hy; subst hy; exact hk hx
theorem qmS {W : World} {N m : Nat} {css : List (List Value)} {vo vn vu vt vr : Nat → Option Addr × Nat × Nat} {rs : List Rc} (hm : css.length = m) (hR : Rcs W css rs)
 (hc : ∀ k (hk : k < css.length) (hr : k < rs.length), css[k] = [.slice (vo k).1 (vo k).2.1 (vo k).2.2, .int .u32 (rs[k].ttl : Int), .int .i64 rs[k].data.ty, .slice (vn k).1 (vn k).2.1 (vn k).2.2, .slice (vu k).1 (vu k).2.1 (vu k).2.2, .slice (vt k).1 (vt k).2.1 (vt k).2.2, .slice (vr k).1 (vr k).2.1 (vr k).2.2])
 (x : SegD m) (hd : DatO N css x W) : SetR W (setC vo rs x) (setR rs x.1.1) := by
 obtain ⟨⟨⟨s, e⟩, ad, cd⟩, hx1, hx2⟩ := x
 simp only at hx1 hx2
 have hl := hR.1
 have hs : s < rs.length := by omega
 have hsc : s < css.length := by omega
 obtain ⟨j, rfl⟩ : ∃ j, e = s + j + 1 := ⟨e - s - 1, by omega⟩
 have e1 : setR rs (s, s + j + 1) = stR rs[s] ((rs.drop (s + 1)).take j) := by
  unfold setR
  simp only [List.drop_eq_getElem_cons hs]
  rw [show s + j + 1 - s - 1 = j by omega]
 have e2 : ttlS rs s (s + j + 1) = leastM rs[s].ttl ((rs.drop (s + 1)).take j) := by
  unfold ttlS
  rw [qcL hs, List.drop_eq_getElem_cons hs, show s + j + 1 - s = j + 1 by omega, List.take_succ_cons, qcO]
 show SetR W (setC vo rs ⟨((s, s + j + 1), ad, cd), hx1, hx2⟩) (setR rs (s, s + j + 1))
 rw [e1]
 unfold setC
 simp only
 rw [qcL hs, e2]
 have hk5 : ∀ cs ∈ dcs css s (s + j + 1), cs.length = 5 := fun cs h => by
  obtain ⟨c7, h7, rfl⟩ := List.mem_map.1 h
  rw [List.length_drop, hR.ck c7 (List.mem_of_mem_drop (List.mem_of_mem_take h7))]
 have hdl : (dcs css s (s + j + 1)).length = j + 1 := by rw [qgb (by omega)]; omega
 have h0 := hR.2 s hsc hs
 rw [hc s hsc hs] at h0
 obtain ⟨_, _, _, _, _, e5, n1, _⟩ := h0
 simp only [List.cons.injEq, and_true] at e5
 refine ⟨vo s, (ad, s + j + 1 - s, cd), dcs css s (s + j + 1), rfl, ?_, SlK.of_own hd hk5, ?_, fun i h1 h2 => ⟨hk5 _ (List.getElem_mem h1), ?_⟩⟩
 ·rw [e5.1]; exact n1
 ·rw [hdl]; simp [stR]; omega
 ·have hi : i < j + 1 := by rw [hdl] at h1; exact h1
  have hc1 : s + i < css.length := by omega
  have hc2 : s + i < rs.length := by omega
  have ed : (dcs css s (s + j + 1))[i] = css[s + i].drop 2 := by
   simp only [dcs, List.getElem_map, List.getElem_take, List.getElem_drop]
  have er : (stR rs[s] ((rs.drop (s + 1)).take j)).data[i] = rs[s + i].data := by
   cases i with
   | zero => rfl
   | succ i =>
    simp only [stR, List.getElem_cons_succ, List.getElem_map, List.getElem_take, List.getElem_drop]
    congr 2; omega
  rw [ed, er]
  have hi0 := hR.2 (s + i) hc1 hc2
  obtain ⟨wo, wn, wu, wt, wr, e6, _, d1⟩ := hi0
  rw [e6]
  exact d1
theorem KpX.grownX {N B : Nat} {W W' : World} (hN : N = W.heap.size) (h : KpX N B W W') : W.grownBy W' (some B) := ⟨h.os, h.tape, h.output, h.size, fun k hk hne => h.block k (by omega) (fun e => hne (by rw [e]))⟩
theorem FrAt.keptX {W W' : World} {base B : Nat} {cs : List Value} {r : Rc} (h : FrAt W base cs r) (hB : B < base) (hg : W.grownBy W' (some B)) : FrAt W' base cs r := by
 obtain ⟨vo, vn, vu, vt, vr, e, h1, ⟨⟨vs, k1, k2, k3⟩, i1, i2, i3⟩⟩ := h
 have hk : ∀ {α : Type} {T : TypeId} {enc : α → Value} {v : Value} {xs : List α}, OwnG T enc W base v xs → OwnG T enc W' base v xs := fun {α T enc v xs} o => o.kept hg (.inr fun e => by have := o.base_le B e; omega)
 exact ⟨vo, vn, vu, vt, vr, e, hk h1, ⟨⟨vs, hk k1, k2, fun i a b => hk (k3 i a b)⟩, hk i1, hk i2, hk i3⟩⟩
abbrev Sl5 := (Option Addr × Nat × Nat) × (Option Addr × Nat × Nat) × (Option Addr × Nat × Nat) × (Option Addr × Nat × Nat) × (Option Addr × Nat × Nat)
theorem qjA {W : World} {css : List (List Value)} {rs : List Rc} (hR : Rcs W css rs) : ∃ vo vn vu vt vr : Nat → Option Addr × Nat × Nat, ∀ k (hk : k < css.length) (hr : k < rs.length), css[k] = [.slice (vo k).1 (vo k).2.1 (vo k).2.2, .int .u32 (rs[k].ttl : Int), .int .i64 rs[k].data.ty, .slice (vn k).1 (vn k).2.1 (vn k).2.2, .slice (vu k).1 (vu k).2.1 (vu k).2.2, .slice (vt k).1 (vt k).2.1 (vt k).2.2, .slice (vr k).1 (vr k).2.1 (vr k).2.2] := by
 obtain ⟨F, hF⟩ := Go.Deep.choose_lt (n := css.length) (α := Sl5) (p := fun k q => ∀ (hk : k < css.length) (hr : k < rs.length), css[k] = [.slice q.1.1 q.1.2.1 q.1.2.2, .int .u32 (rs[k].ttl : Int), .int .i64 rs[k].data.ty, .slice q.2.1.1 q.2.1.2.1 q.2.1.2.2, .slice q.2.2.1.1 q.2.2.1.2.1 q.2.2.1.2.2, .slice q.2.2.2.1.1 q.2.2.2.1.2.1 q.2.2.2.1.2.2, .slice q.2.2.2.2.1 q.2.2.2.2.2.1 q.2.2.2.2.2.2]) (fun k hk => by
  obtain ⟨x0, x3, x4, x5, x6, e⟩ := (hR.2 k hk (by have := hR.1; omega)).shape
  exact ⟨(x0, x3, x4, x5, x6), fun _ _ => e⟩)
 exact ⟨fun k => (F k).1, fun k => (F k).2.1, fun k => (F k).2.2.1, fun k => (F k).2.2.2.1, fun k => (F k).2.2.2.2, fun k hk hr => hF k hk hk hr⟩
theorem qjV (N B : Nat) (W0 : World) (a : Option Addr) (m c b1 : Nat) (css : List (List Value)) (rs : List Rc) (vo vn vu vt vr : Nat → Option Addr × Nat × Nat) (hA : SlK W0 (.slice a m c) css) (hm : css.length = m) (hmb : m ≤ 1048576) (hst : ∀ W, KpX N B W0 W → Rcs W css rs) (hOK : ∀ r ∈ rs, RcOK r)
 (hN : N = W0.heap.size) (hb1 : b1 < N) (hb1B : b1 ≠ B) (hown : ∀ b, (Value.slice a m c).ownBlock = some b → b ≠ B)
 (hc1 : Boxed W0 b1 22 (.slice a m c))
 (hc : ∀ k (hk : k < css.length) (hr : k < rs.length), css[k] = [.slice (vo k).1 (vo k).2.1 (vo k).2.2, .int .u32 (rs[k].ttl : Int), .int .i64 rs[k].data.ty, .slice (vn k).1 (vn k).2.1 (vn k).2.2, .slice (vu k).1 (vu k).2.1 (vu k).2.2, .slice (vt k).1 (vt k).2.1 (vt k).2.2, .slice (vr k).1 (vr k).2.1 (vr k).2.2]) :
 qgv Fence.wide 7 Tryz.prog 110 #[.pointer (some ⟨b1, 0, none⟩)] (setV (fun k => .slice (vo k).1 (vo k).2.1 (vo k).2.2) rs (n := m)) (DatO N css) (KpX N B) (fun xs => xs.map (·.1.1) = segsS rs) (fun xs => xs.map (·.1.1) <+: segsS rs) m W0 := by
 have hR := hst W0 (KpX.refl _ _ _)
 have hck := hR.ck
 obtain ⟨g, off, hg⟩ : ∃ g off, 0 < m → a = some ⟨g, off, none⟩ ∧ g < W0.heap.size := by
  by_cases h0 : 0 < m
  ·obtain ⟨g, off, e, hl, _⟩ := hA.elem hck (by omega)
   exact ⟨g, off, fun _ => ⟨e, hl⟩⟩
  ·exact ⟨0, 0, fun h => absurd h h0⟩
 have hnc : m ≤ c := by
  obtain ⟨a', c', e, h1, _⟩ := id hA
  cases e; omega
 have H : SetW b1 a g off m c css rs vo vn vu vt vr (KpX N B) (fun W => KpX N B W0 W) :=
  { c1 := fun W hK => Boxed.cell (t := 22) ((hK.block b1 hb1 hb1B).trans hc1)
    ha := fun h0 => (hg h0).1
    el := fun W hK k hlt u0 u1 u2 u3 u4 u5 u6 e => by
     have h0 : 0 < m := by omega
     obtain ⟨ea, hgl⟩ := hg h0
     have hA2 : SlK W (.slice a m c) css := by
      obtain ⟨a', c', e1, i1, i2, i3⟩ := id hA
      cases e1
      refine ⟨_, _, by rw [hm], by rw [hm]; exact hnc, i2, ?_⟩
      rcases i3 with i3 | ⟨b, o2, e2, hlt2, hcell⟩
      ·exact .inl i3
      ·refine .inr ⟨b, o2, e2, Nat.lt_of_lt_of_le hlt2 hK.size, fun j u hj => (World.cell?_of_block (a := ⟨b, o2 + j, none⟩) (hK.block b (by omega) (hown b (by rw [e2]; rfl)))).trans (hcell j u hj)⟩
     obtain ⟨g', off', ea', _, hel⟩ := hA2.elem hck (by omega)
     rw [ea] at ea'
     cases ea'
     exact hel k hlt u0 u1 u2 u3 u4 u5 u6 e W (qL0)
    bel := fun W hK i j hi hj hj' tt a1 n1 c1 => by
     have hRW := hst W hK
     have hic : i < css.length := by have := hR.1; omega
     have h1 := hRW.2 i hic hi
     rw [hc i hic hi] at h1
     obtain ⟨_, _, _, _, _, e5, n1', _⟩ := h1
     simp only [List.cons.injEq, and_true] at e5
     exact qhU _ _ _ a1 n1 c1 tt rs[i].owner rs[i].data.ty css[j] rs[j] W (by rw [e5.1]; exact n1') (hOK _ (List.getElem_mem hi)).1 (hRW.2 j hj hj') (hOK _ (List.getElem_mem hj'))
    below := fun W W' h hb => h.trans (KpX.of_below (by rw [hN]; exact h.size) hb)
    kp := fun W W' h k => h.trans k
    cell := hc }
 intro l J Jx W hW hJ hJx hY h0
 refine (qmt 7 (by omega) l b1 a g off m c hnc hmb css rs hm (by rw [← hR.1]; exact hm) vo vn vu vt vr N (KpX N B) _ H J Jx (fun pre W W' h hb => hJ pre W W' none h (qby hb) (fun _ e => by cases e)) (fun W h => by rw [hN]; exact h.size) hY W (KpX.of_below (by omega) hW) h0).mono ?_
 rintro e W' ⟨h1, h2 | ⟨pre, h3, h2⟩⟩
 ·exact ⟨h1, .inl h2⟩
 ·exact ⟨h1, .inr ⟨pre, h3, h2⟩⟩
end Go.Proofs.YtckammgnmgkieaaGreat
namespace Go.Proofs.YtckammgnmgkieaaGreat
set_option maxRecDepth 20000
open Go.RowKit Go.Shelf
theorem qir {x : Rc} (hx : RcOK x) : ∀ (l : List Rc), (∀ y ∈ l, RcOK y) → ∀ y ∈ insR l x, RcOK y
 | [], _, y, hy => by
  rw [insR, List.mem_singleton] at hy; subst hy; exact hx
 | z :: r, h, y, hy => by
  have hz := h z (by simp)
  rw [insR] at hy
  split at hy
  ·rcases List.mem_cons.1 hy with rfl | hy
   ·exact hz
   ·exact qir hx r (fun a ha => h a (by simp [ha])) y hy
  ·split at hy
   ·rcases List.mem_cons.1 hy with rfl | hy
    ·exact ⟨hz.1, by show minT z.ttl x.ttl < _; unfold minT; split; exact hx.2.1; exact hz.2.1, hz.2.2⟩
    ·exact h y (by simp [hy])
   ·rcases List.mem_cons.1 hy with rfl | hy
    ·exact hx
    ·exact h y hy
theorem qb4 (l : List Rc) : (∀ r ∈ l, RcOK r) → ∀ y ∈ canonM l, RcOK y :=
 qaW (P := fun l => (∀ r ∈ l, RcOK r) → ∀ y ∈ canonM l, RcOK y) (fun _ y hy => by cases hy) (fun l x ih h y hy => by
  rw [qa2] at hy
  exact qir (h x (by simp)) _ (ih fun r hr => h r (by simp [hr])) y hy) l
section
attribute [local go_sem] Oper.semAt_some
end
end Go.Proofs.YtckammgnmgkieaaGreat
namespace Go.Proofs.YtckammgnmgkieaaGreat
set_option maxRecDepth 100000
set_option maxHeartbeats 16000000
open Go.RowKit Go.Shelf
theorem SlK.elem5 {W : World} {a : Option Addr} {n c : Nat} {css : List (List Value)} (h : SlK W (.slice a n c) css) (hk : ∀ cs ∈ css, cs.length = 5) (h0 : 0 < css.length) : ∃ b off, a = some ⟨b, off, none⟩ ∧ b < W.heap.size ∧
 ∀ k (hlt : k < css.length) (u0 u1 u2 u3 u4 : Value), css[k] = [u0, u1, u2, u3, u4] → ∀ W', Below W.heap.size W W' →
  W'.cell? ⟨b, off + k * 5, none⟩ = some u0 ∧ W'.cell? ⟨b, off + k * 5 + 1, none⟩ = some u1 ∧ W'.cell? ⟨b, off + k * 5 + 2, none⟩ = some u2 ∧ W'.cell? ⟨b, off + k * 5 + 3, none⟩ = some u3 ∧ W'.cell? ⟨b, off + k * 5 + 4, none⟩ = some u4 := by
 obtain ⟨a', c', e, _, _, h3⟩ := h
 cases e
 rcases h3 with h3 | ⟨b, off, rfl, hb, hc⟩
 ·subst h3; simp at h0
 ·refine ⟨b, off, rfl, hb, fun k hlt u0 u1 u2 u3 u4 he W' hB => ?_⟩
  have key : ∀ j u, j < 5 → [u0, u1, u2, u3, u4][j]? = some u → W'.cell? ⟨b, off + k * 5 + j, none⟩ = some u := fun j u hj hu => by
   rw [hB.cell (p := ⟨b, off + k * 5 + j, none⟩) hb, Nat.add_assoc]
   refine hc (k * 5 + j) u ?_
   have hl : ∀ (l : List (List Value)) (k : Nat) (hlt : k < l.length), (∀ cs ∈ l, cs.length = 5) → l[k] = [u0, u1, u2, u3, u4] → l.flatten[k * 5 + j]? = some u := by
    intro l
    induction l with
    | nil => intro k hlt; simp at hlt
    | cons x r ih =>
     intro k hlt hk he
     rw [List.flatten_cons]
     cases k with
     | zero =>
      rw [List.getElem_cons_zero] at he
      rw [he, List.getElem?_append_left (by simp; omega)]
      simpa using hu
     | succ k =>
      rw [List.getElem_cons_succ] at he
      have hx : x.length = 5 := hk x (by simp)
      rw [List.getElem?_append_right (by rw [hx]; omega), hx, show (k + 1) * 5 + j - 5 = k * 5 + j by omega]
      exact ih k (by simpa using hlt) (fun cs hc => hk cs (by simp [hc])) he
   exact hl css k hlt hk he
  exact ⟨key 0 u0 (by omega) rfl, key 1 u1 (by omega) rfl, key 2 u2 (by omega) rfl, key 3 u3 (by omega) rfl, key 4 u4 (by omega) rfl⟩
theorem SlK.elem4 {W : World} {a : Option Addr} {n c : Nat} {css : List (List Value)} (h : SlK W (.slice a n c) css) (hk : ∀ cs ∈ css, cs.length = 4) (h0 : 0 < css.length) : ∃ b off, a = some ⟨b, off, none⟩ ∧ b < W.heap.size ∧
 ∀ k (hlt : k < css.length) (u0 u1 u2 u3 : Value), css[k] = [u0, u1, u2, u3] → ∀ W', Below W.heap.size W W' →
  W'.cell? ⟨b, off + k * 4, none⟩ = some u0 ∧ W'.cell? ⟨b, off + k * 4 + 1, none⟩ = some u1 ∧ W'.cell? ⟨b, off + k * 4 + 2, none⟩ = some u2 ∧ W'.cell? ⟨b, off + k * 4 + 3, none⟩ = some u3 := by
 obtain ⟨a', c', e, _, _, h3⟩ := h
 cases e
 rcases h3 with h3 | ⟨b, off, rfl, hb, hc⟩
 ·subst h3; simp at h0
 ·refine ⟨b, off, rfl, hb, fun k hlt u0 u1 u2 u3 he W' hB => ?_⟩
  have key : ∀ j u, j < 4 → [u0, u1, u2, u3][j]? = some u → W'.cell? ⟨b, off + k * 4 + j, none⟩ = some u := fun j u hj hu => by
   rw [hB.cell (p := ⟨b, off + k * 4 + j, none⟩) hb, Nat.add_assoc]
   refine hc (k * 4 + j) u ?_
   have hl : ∀ (l : List (List Value)) (k : Nat) (hlt : k < l.length), (∀ cs ∈ l, cs.length = 4) → l[k] = [u0, u1, u2, u3] → l.flatten[k * 4 + j]? = some u := by
    intro l
    induction l with
    | nil => intro k hlt; simp at hlt
    | cons x r ih =>
     intro k hlt hk he
     rw [List.flatten_cons]
     cases k with
     | zero =>
      rw [List.getElem_cons_zero] at he
      rw [he, List.getElem?_append_left (by simp; omega)]
      simpa using hu
     | succ k =>
      rw [List.getElem_cons_succ] at he
      have hx : x.length = 4 := hk x (by simp)
      rw [List.getElem?_append_right (by rw [hx]; omega), hx, show (k + 1) * 4 + j - 4 = k * 4 + j by omega]
      exact ih k (by simpa using hlt) (fun cs hc => hk cs (by simp [hc])) he
   exact hl css k hlt hk he
  exact ⟨key 0 u0 (by omega) rfl, key 1 u1 (by omega) rfl, key 2 u2 (by omega) rfl, key 3 u3 (by omega) rfl⟩
def Dts (W : World) (css : List (List Value)) (ds : List Dat) : Prop := css.length = ds.length ∧ ∀ i (h1 : i < css.length) (h2 : i < ds.length), css[i].length = 5 ∧ DatAt W (.agg css[i].toArray) ds[i]
theorem Dts.below {W W' : World} {css : List (List Value)} {ds : List Dat} (h : Dts W css ds) (hb : Below W.heap.size W W') : Dts W' css ds := ⟨h.1, fun i h1 h2 => ⟨(h.2 i h1 h2).1, (h.2 i h1 h2).2.below hb⟩⟩
theorem Dts.ck {W : World} {css : List (List Value)} {ds : List Dat} (h : Dts W css ds) : ∀ cs ∈ css, cs.length = 5 := fun cs hc => by
 obtain ⟨i, hi, rfl⟩ := List.mem_iff_getElem.1 hc
 exact (h.2 i hi (by have := h.1; omega)).1
theorem qbv {W : World} {cs : List Value} {d : Dat} (h : DatAt W (.agg cs.toArray) d) : ∃ x3 x4 x5 x6 : Option Addr × Nat × Nat, cs = [.int .i64 d.ty, .slice x3.1 x3.2.1 x3.2.2, .slice x4.1 x4.2.1 x4.2.2, .slice x5.1 x5.2.1 x5.2.2, .slice x6.1 x6.2.1 x6.2.2] := by
 obtain ⟨un, uu, ut, ur, e, ⟨vs, g1, _⟩, g2, g3, g4⟩ := h
 have e' : cs = [Value.int .i64 d.ty, un, uu, ut, ur] := by
  have : cs.toArray = #[Value.int .i64 d.ty, un, uu, ut, ur] := by injection e
  exact congrArg Array.toList this
 obtain ⟨a3, c3, rfl, _⟩ := g1
 obtain ⟨a4, c4, rfl, _⟩ := g2
 obtain ⟨a5, c5, rfl, _⟩ := nmAt_sl.1 g3
 obtain ⟨a6, c6, rfl, _⟩ := g4
 exact ⟨(a3, _, c3), (a4, _, c4), (a5, _, c5), (a6, _, c6), e'⟩
def qap : List Dat → List Dat → Bool
 | [], [] => true
 | x :: r, y :: t => (qao x y == 0) && qap r t
 | _, _ => false
theorem qdc : ∀ (l m : List Dat), l.length ≠ m.length → qap l m = false
 | [], [], h => absurd rfl h
 | [], _ :: _, _ => rfl
 | _ :: _, [], _ => rfl
 | x :: r, y :: t, h => by
  have := qdc r t (by simpa using h)
  simp [qap, this]
theorem qed {l m : List Dat} (k : Nat) (h1 : k < l.length) (h2 : k < m.length) : qap (l.drop k) (m.drop k) = ((qao l[k] m[k] == 0) && qap (l.drop (k + 1)) (m.drop (k + 1))) := by
 rw [List.drop_eq_getElem_cons h1, List.drop_eq_getElem_cons h2]; rfl
theorem qcQ : ∀ l, qap l l = true
 | [] => rfl
 | x :: r => by
  have := cord_compareD.anti x x
  simp [qap, qcQ r, show qao x x = 0 by omega]
theorem qkG (v u : Value) (css ess : List (List Value)) (l m : List Dat) (w : World) (hA : SlK w v css) (hR : Dts w css l) (hU : SlK w u ess) (hS : Dts w ess m) (hOK : ∀ r ∈ l, DatOK r) (hOK2 : ∀ r ∈ m, DatOK r) (hl : css.length ≤ 1048576) (hl2 : ess.length ≤ 1048576) :
 Calls Tryz.prog 108 #[v, u, .func (.func 109) #[] #[]] w fun e w' => e = .returned (.bool (qap l m)) ∧ Below w.heap.size w w' := by
 obtain ⟨a, c, rfl, hc1, hc2, hx⟩ := id hA
 obtain ⟨b, d, rfl, hd1, hd2, hy⟩ := id hU
 obtain ⟨n, hn⟩ : ∃ n, css.length = n := ⟨_, rfl⟩
 obtain ⟨n2, hn2⟩ : ∃ n, ess.length = n := ⟨_, rfl⟩
 have HSA := qH0 hA; have HSU := qH0 hU; have HR := qH0 hR; have HS := qH0 hS; have HOK := qH0 hOK; have HOK2 := qH0 hOK2
 rw [hn] at HSA hc1 hl ⊢
 rw [hn2] at HSU hd1 hl2 ⊢
 have HN := qH0 hn; have HN2 := qH0 hn2
 have HLA := qH0 (show l.length = n by rw [← hn]; exact hR.1.symm)
 have HLB := qH0 (show m.length = n2 by rw [← hn2]; exact hS.1.symm)
 obtain ⟨res, hres⟩ : ∃ r, qap l m = r := ⟨_, rfl⟩
 rw [hres]
 have HRES := qH0 hres
 clear hA hU hR hS hOK hOK2 hc2 hx hd2 hy hn hn2 hres
 by_cases hnn : n = n2
 ·subst hnn
  have HB0 : Hid (Below w.heap.size w w) := qH0 (qL0)
  go_enter Tryz.func108, Tryz.ntmps108
  go_wp2
  go_loopw [17] (fun vi wr => ∃ (k : Nat), vi = .int .i64 k ∧ k ≤ n ∧ Hid (res = qap (l.drop k) (m.drop k)) ∧ Hid (Below w.heap.size w wr)) (fun vi _ => n - (intOf vi).toNat)
  case atStart => exact ⟨0, rfl, Nat.zero_le _, qH0 HRES.out.symm, HB0⟩
  case round =>
   obtain ⟨k, rfl, hk, HC, HB⟩ := hrel
   by_cases hlt : k < n
   ·have hltz : (k : Int) < (n : Int) := by omega
    have hk1 : k < css.length := by have := HN.out; omega
    have hk2 : k < ess.length := by have := HN2.out; omega
    have hk3 : k < l.length := by have := HLA.out; omega
    have hk4 : k < m.length := by have := HLB.out; omega
    obtain ⟨ga, oa, rfl, hga, hea⟩ := HSA.out.elem5 HR.out.ck (by omega)
    obtain ⟨gb, ob, rfl, hgb, heb⟩ := HSU.out.elem5 HS.out.ck (by omega)
    have h0 := (HR.out.2 k hk1 hk3).2
    have h1 := (HS.out.2 k hk2 hk4).2
    have hok := HOK.out _ (List.getElem_mem hk3)
    have hok2 := HOK2.out _ (List.getElem_mem hk4)
    have hst := qed k hk3 hk4
    obtain ⟨ra, hra⟩ : ∃ r, l[k]'hk3 = r := ⟨_, rfl⟩
    obtain ⟨rb, hrb⟩ : ∃ r, m[k]'hk4 = r := ⟨_, rfl⟩
    rw [hra] at h0 hok hst
    rw [hrb] at h1 hok2 hst
    clear hra hrb
    have htw := fun W (hb : Below w.heap.size w W) => qfy _ _ _ _ W (h0.below hb) (h1.below hb) hok hok2
    obtain ⟨⟨p3, q3, r3⟩, ⟨p4, q4, r4⟩, ⟨p5, q5, r5⟩, ⟨p6, q6, r6⟩, e0⟩ := qbv h0
    obtain ⟨⟨p3', q3', r3'⟩, ⟨p4', q4', r4'⟩, ⟨p5', q5', r5'⟩, ⟨p6', q6', r6'⟩, e1⟩ := qbv h1
    simp only at e0 e1
    obtain ⟨c0, c1, c2, c3, c4⟩ := hea k hk1 _ _ _ _ _ e0 wr HB.out
    obtain ⟨d0, d1, d2, d3, d4⟩ := heb k hk2 _ _ _ _ _ e1 (wr.alloc (.cells #[.int .i64 ra.ty, .slice p3 q3 r3, .slice p4 q4 r4, .slice p5 q5 r5, .slice p6 q6 r6] 101)) (HB.out.alloc HB.out.size _)
    rw [e0, e1] at htw
    obtain ⟨tw, htw'⟩ : ∃ t, (qao ra rb == 0) = t := ⟨_, rfl⟩
    rw [htw'] at htw hst
    have HTW := qH0 htw
    have HST := qH0 hst
    clear h0 h1 hok hok2 htw hst e0 e1 htw' hea heb hk1 hk2 hk3 hk4
    go_wp2_with fail
    have HBW := qH0 ((HB.out.alloc HB.out.size (.cells #[.int .i64 ra.ty, .slice p3 q3 r3, .slice p4 q4 r4, .slice p5 q5 r5, .slice p6 q6 r6] 101)).alloc (by have := HB.out.size; simp; omega) (.cells #[.int .i64 rb.ty, .slice p3' q3' r3', .slice p4' q4' r4', .slice p5' q5' r5', .slice p6' q6' r6'] 101))
    refine (HTW.out _ HBW.out).mono ?_
    rintro e w2 ⟨rfl, hb2⟩
    have HB2 := qH0 (qB0 HBW.out hb2)
    have HC2 : Hid (res = (tw && qap (l.drop (k + 1)) (m.drop (k + 1)))) := qH0 (by rw [HC.out, HST.out])
    clear hb2 HC HST HTW HBW HB c0 c1 c2 c3 c4 d0 d1 d2 d3 d4
    cases tw
    ·have HE : Hid (res = false) := qH0 (by rw [HC2.out]; rfl)
     clear HC2
     go_wp2
     go_ret
     exact ⟨by rw [HE.out]; rfl, HB2.out⟩
    ·have HE : Hid (res = qap (l.drop (k + 1)) (m.drop (k + 1))) := qH0 (by rw [HC2.out]; rfl)
     clear HC2
     go_wp2
     go_roundw
     case measure => simp [intOf]; omega
     case rel => exact ⟨k + 1, by go_num, by omega, HE, HB2⟩
   ·obtain rfl : k = n := by omega
    have HE : Hid (res = true) := qH0 (by
     rw [HC.out, List.drop_of_length_le (by have := HLA.out; omega), List.drop_of_length_le (by have := HLB.out; omega)]; rfl)
    clear HC
    go_wp2
    go_ret
    exact ⟨by rw [HE.out]; rfl, HB.out⟩
 ·have hz : ¬ (n : Int) = (n2 : Int) := by omega
  have hzb : ((n : Int) != (n2 : Int)) = true := by simpa using hz
  have HE : Hid (res = false) := qH0 (by rw [← HRES.out]; exact qdc _ _ (by have := HLA.out; have := HLB.out; omega))
  go_enter Tryz.func108, Tryz.ntmps108
  go_wp2
  go_ret
  exact ⟨by rw [HE.out]; rfl, qL0⟩
def tgtM (ds : List Dat) : List Nm := ds.filterMap fun d => d.names.head?
def qaM (t : Int) (ds : List Dat) : List Nm := if t = 2 ∨ t = 5 ∨ t = 12 ∨ t = 39 ∨ t = 15 then tgtM ds else []
theorem qlw {ds : List Dat} {k : Nat} (h : k < ds.length) : tgtM (ds.take (k + 1)) = tgtM (ds.take k) ++ ds[k].names.head?.toList := by
 unfold tgtM
 rw [List.take_succ_eq_append_getElem h, List.filterMap_append]
 cases e : ds[k].names with
 | nil => simp [e]
 | cons x r => simp [e]
theorem qii (ds : List Dat) : (tgtM ds).length ≤ ds.length := List.length_filterMap_le _ _
theorem qcn {W : World} {cs : List Value} {d : Dat} (h : DatAt W (.agg cs.toArray) d) : ∃ (an : Option Addr) (cn : Nat) (x4 x5 x6 : Option Addr × Nat × Nat) (vs : List Value), cs = [.int .i64 d.ty, .slice an d.names.length cn, .slice x4.1 x4.2.1 x4.2.2, .slice x5.1 x5.2.1 x5.2.2, .slice x6.1 x6.2.1 x6.2.2] ∧ SlAt W (.slice an d.names.length cn) vs ∧ vs.length = d.names.length ∧ d.names.length ≤ cn ∧ ∀ j (h1 : j < vs.length) (h2 : j < d.names.length), NmAt W vs[j] d.names[j] := by
 obtain ⟨un, uu, ut, ur, e, ⟨vs, g1, gl, g5⟩, g2, g3, g4⟩ := h
 have e' : cs = [Value.int .i64 d.ty, un, uu, ut, ur] := by
  have : cs.toArray = #[Value.int .i64 d.ty, un, uu, ut, ur] := by injection e
  exact congrArg Array.toList this
 obtain ⟨a3, c3, rfl, hc3, _⟩ := id g1
 obtain ⟨a4, c4, rfl, _⟩ := g2
 obtain ⟨a5, c5, rfl, _⟩ := nmAt_sl.1 g3
 obtain ⟨a6, c6, rfl, _⟩ := g4
 rw [gl] at e' g1 hc3
 exact ⟨a3, c3, (a4, _, c4), (a5, _, c5), (a6, _, c6), vs, e', g1, gl, hc3, fun j h1 _ => g5 j h1⟩
def qjg (w : World) (l : List Nm) (e : Ending) (w' : World) : Prop := ∃ v, e = .returned v ∧ OwnNms w' w.heap.size v l ∧ Below w.heap.size w w'
theorem qin (a0 : Option Addr) (n0 c0 : Nat) (ty t1 : Int) (v1 : Option Addr) (n c : Nat) (css : List (List Value)) (ds : List Dat) (w : World) (hA : SlK w (.slice v1 n c) css) (hR : Dts w css ds) (hOK : ∀ r ∈ ds, DatOK r) (hl : n ≤ 1048576) :
 Calls Tryz.prog 18 #[.agg #[.slice a0 n0 c0, .int .i64 ty, .int .u32 t1, .slice v1 n c]] w (qjg w (qaM ty ds)) := by
 by_cases hty : ty = 2 ∨ ty = 5 ∨ ty = 12 ∨ ty = 39 ∨ ty = 15
 ·have HT : Hid (qaM ty ds = tgtM ds) := qH0 (by unfold qaM; rw [if_pos hty])
  rw [HT.out]
  obtain ⟨hln, hx⟩ : css.length = n ∧ n ≤ c := by
   obtain ⟨a', c', e, h1, _⟩ := id hA
   cases e; exact ⟨rfl, h1⟩
  have HA := qH0 hA; have HR := qH0 hR; have HOK := qH0 hOK; have HLN := qH0 hln
  have HDL := qH0 (show ds.length = n by rw [← hR.1]; exact hln)
  have HB0 := qH0 ((Below.refl w.heap.size w).alloc (qN0) (.cells #[.slice a0 n0 c0, .int .i64 ty, .int .u32 t1, .slice v1 n c] 38))
  clear hA hR hOK hln HT
  rcases hty with rfl | rfl | rfl | rfl | rfl
  all_goals
   go_enter Tryz.func18, Tryz.ntmps18
   go_wp2
   go_loopw [3, 17] (fun v3 vi wr => ∃ (k : Nat) (ga : Option Addr) (gn gc : Nat), v3 = .slice ga gn gc ∧ vi = .int .i64 k ∧ k ≤ n ∧ Hid (OwnNms wr w.heap.size (.slice ga gn gc) (tgtM (ds.take k))) ∧ Hid (Below w.heap.size w wr)) (fun _ vi _ => n - (intOf vi).toNat)
   case atStart => exact ⟨0, none, 0, 0, rfl, rfl, Nat.zero_le _, qH0 (OwnNms.nil _ _), HB0⟩
   case round =>
    obtain ⟨k, ga, gn, gc, rfl, rfl, hk, HO, HB⟩ := hrel
    by_cases hlt : k < n
    ·have hltz : (k : Int) < (n : Int) := by omega
     have hk1 : k < css.length := by have := HLN.out; omega
     have hk2 : k < ds.length := by have := HDL.out; omega
     obtain ⟨b, off, rfl, hb, hel⟩ := HA.out.elem5 HR.out.ck (by omega)
     have h0 := (HR.out.2 k hk1 hk2).2
     have hok := HOK.out _ (List.getElem_mem hk2)
     have htk := qlw hk2
     obtain ⟨d, hd⟩ : ∃ d, ds[k]'hk2 = d := ⟨_, rfl⟩
     rw [hd] at h0 hok htk
     obtain ⟨an, cn, ⟨p4, q4, r4⟩, ⟨p5, q5, r5⟩, ⟨p6, q6, r6⟩, vs, e0, s1, sl, hcn, s2⟩ := qcn h0
     simp only at e0
     obtain ⟨c0', c1, c2, c3, c4⟩ := hel k hk1 _ _ _ _ _ e0 wr HB.out
     obtain ⟨nn, hnn⟩ : ∃ m, d.names.length = m := ⟨_, rfl⟩
     rw [hnn] at e0 s1 sl hcn c1
     have HBB := qH0 (HB.out.alloc HB.out.size (.cells #[.int .i64 d.ty, .slice an nn cn, .slice p4 q4 r4, .slice p5 q5 r5, .slice p6 q6 r6] 101))
     have HTK := qH0 htk
     by_cases hz : nn = 0
     ·have hzz : ¬ (0 : Int) < (nn : Int) := by omega
      have hzn : ¬ 0 < nn := by omega
      have HE : Hid (tgtM (ds.take (k + 1)) = tgtM (ds.take k)) := qH0 (by
       rw [HTK.out, show d.names = [] from List.eq_nil_of_length_eq_zero (by omega)]; simp)
      have HO2 : Hid (OwnNms (wr.alloc (.cells #[.int .i64 d.ty, .slice an nn cn, .slice p4 q4 r4, .slice p5 q5 r5, .slice p6 q6 r6] 101)) w.heap.size (.slice ga gn gc) (tgtM (ds.take (k + 1)))) := qH0 (by rw [HE.out]; exact HO.out.below ((Below.refl _ wr).alloc (qN0) _))
      clear h0 hok htk hd e0 s1 sl s2 hk1 hk2 hel hz HO HB HTK hnn hcn
      go_wp2
      go_roundw
      case measure => simp [intOf]; omega
      case rel => exact ⟨k + 1, ga, gn, gc, rfl, by go_num, by omega, HO2, HBB⟩
     ·have hzz : (0 : Int) < (nn : Int) := by omega
      have hzn : 0 < nn := by omega
      have hj0 : 0 < vs.length := by omega
      obtain ⟨b2, off2, rfl, hb2, hcell⟩ := s1.cell (HBB.out.trans (qL0)) 0 hj0
      have hnm := s2 0 hj0 (by omega)
      have hnmr := hnm.below HBB.out
      obtain ⟨nm, hnm1⟩ : ∃ nm, d.names[0]'(by omega) = nm := ⟨_, rfl⟩
      have hokn : NmOK nm := by rw [← hnm1]; exact hok.2.2.1 _ (List.getElem_mem _)
      have HHD : Hid (d.names.head?.toList = [nm]) := qH0 (by
       rw [← hnm1, List.head?_eq_getElem?, List.getElem?_eq_getElem (by omega)]; rfl)
      rw [hnm1] at hnm hnmr
      obtain ⟨av, cv, ev, -⟩ := nmAt_sl.1 hnm
      rw [ev] at hcell hnmr
      obtain ⟨m, hm⟩ : ∃ m, (List.map strV nm).length = m := ⟨_, rfl⟩
      rw [hm] at hcell hnmr
      have hc0 := qaZ (.slice av m cv) nm _ hnmr.1 hnmr.2 (by have := hokn.1; omega)
      rw [Nat.add_zero] at hcell
      have HGL := qH0 (show (tgtM (ds.take k)).length ≤ 1048576 by have := qii (ds.take k); rw [List.length_take] at this; omega)
      have HO1 := qH0 (HO.out.below ((Below.refl _ wr).alloc (qN0) (.cells #[.int .i64 d.ty, .slice (some ⟨b2, off2, none⟩) nn cn, .slice p4 q4 r4, .slice p5 q5 r5, .slice p6 q6 r6] 101)))
      clear h0 hok htk hd e0 s1 sl s2 hk1 hk2 hel hz HO HB hnm hnmr hokn ev hm hnm1 hnn hj0
      go_wp2_with fail
      refine hc0.mono ?_
      rintro e w2 ⟨v', rfl, hown, hbb2⟩
      have HB2 := qH0 (qB0 HBB.out hbb2)
      obtain ⟨a2, c2', rfl⟩ := hown.shape
      obtain ⟨m2, hm2⟩ : ∃ m, nm.length = m := ⟨_, rfl⟩
      obtain ⟨vs', hv1, hv2, hv3⟩ := HO1.out.below hbb2
      have hown' : OwnG 9 strV w2 w.heap.size (slEnc (a2, m2, c2')) nm := by rw [← hm2]; exact hown.weaken HBB.out.size
      obtain ⟨ga', gc', eg⟩ := hv1.shape
      have HV := qH0 (And.intro hv2 hv3)
      have HOWN := qH0 hown'
      have HC := qH0 (show [Value.slice a2 m2 c2'] = [((a2, m2, c2') : SlV)].map slEnc from rfl)
      have hz2 := HB2.out.size
      have HVK := qH0 (show vs'.length ≤ 1048576 by rw [hv2]; exact HGL.out)
      rw [hm2]
      clear hv2 hv3 hown hown' hm2 hbb2 hc0 hcell eg
      go_wp2_with (at_builtin; refine qcM w2 rfl (.tmp 25) (.tmp 31) qgx rfl qgB w.heap.size (.slice ga gn gc) vs' rfl hv1 [.slice a2 m2 c2'] [((a2, m2, c2') : SlV)] HC.out 1 1 rfl rfl hz2 (by have := HVK.out; unfold maxLen; simp; omega) (by have := HVK.out; simp; omega) ?_; intro v3 w3 hown3 hg3)
      have HO3 : Hid (OwnNms w3 w.heap.size v3 (tgtM (ds.take (k + 1)))) := by
       rw [HTK.out, HHD.out]
       exact qH0 (OwnNms.snoc hv1 HV.out.1 HV.out.2 HOWN.out hown3 hg3)
      have HB3 := qH0 (HB2.out.grown hg3 hz2 hv1.base_le)
      obtain ⟨a3, c3', rfl⟩ := hown3.shape
      clear hown3 hg3 hv1
      go_roundw
      case measure => simp [intOf]; omega
      case rel => exact ⟨k + 1, a3, _, c3', rfl, by go_num, by omega, HO3, HB3⟩
    ·obtain rfl : k = n := by omega
     have h := HO.out
     rw [List.take_of_length_le (by have := HDL.out; omega)] at h
     have HH := qH0 h
     clear h HO
     go_wp2
     go_ret
     exact ⟨_, rfl, HH.out, HB.out⟩
 ·have HT : Hid (qaM ty ds = []) := qH0 (by unfold qaM; rw [if_neg hty])
  rw [HT.out]
  have h1 : (ty == 2) = false := by simp; omega
  have h2 : (ty == 5) = false := by simp; omega
  have h3 : (ty == 12) = false := by simp; omega
  have h4 : (ty == 39) = false := by simp; omega
  have h5 : (ty == 15) = false := by simp; omega
  have HB0 := qH0 ((Below.refl w.heap.size w).alloc (qN0) (.cells #[.slice a0 n0 c0, .int .i64 ty, .int .u32 t1, .slice v1 n c] 38))
  clear hty hA hR hOK HT
  go_enter Tryz.func18, Tryz.ntmps18
  go_wp2
  go_ret
  exact ⟨_, rfl, OwnNms.nil _ _, HB0.out⟩
end Go.Proofs.YtckammgnmgkieaaGreat
