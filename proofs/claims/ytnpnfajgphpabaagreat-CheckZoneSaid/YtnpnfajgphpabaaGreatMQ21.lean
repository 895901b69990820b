import Derived.Shelf.SlSortCmp.Insertion
import Derived.Deep.RegionHeld3
import Derived.RangeFuncKeeps
import Derived.RangeFuncNested
import Derived.RangeFuncWrites
import Derived.Deep.Slices
import Derived.Test.YtnpnfajgphpabaaGreatMQ13
import Derived.Test.YtnpnfajgphpabaaGreatMQ01
namespace Go.Proofs.YtnpnfajgphpabaaGreat.Fls
set_option linter.unusedVariables false
set_option linter.unusedSimpArgs false
set_option maxRecDepth 1000000
set_option maxHeartbeats 4000000
open Go.RowKit Go.Shelf Go.Sort Go.Lib
set_option linter.unusedSectionVars false
variable {P : Program} {α : Type} [Inhabited α]
structure CmpB (P : Program) (g : Nat) (cb : Array Value) (enc : α → List Value) (cf : α → α → Int) (w : World) (blk : Nat) : Prop where
 eg : ∀ args w, (callFunc g args).run P w = .ok (.enter g args) w
 call : ∀ W, w.grownBy W (some blk) → ∀ x y : α, Calls P g (#[.agg (enc x).toArray, .agg (enc y).toArray] ++ cb) W fun e w' => e = .returned (.int .i64 (cf x y)) ∧ Below W.heap.size W w'
theorem CmpB.cls {g : Nat} {cb : Array Value} {enc : α → List Value} {k : Nat} {cf : α → α → Int} {w : World} {blk off : Nat} (h : CmpB P g cb enc cf w blk) (dk : Array α) (p : WIn (fun W => SW enc k w blk off dk W)) (x y : α) :
 Calls P g (#[.agg (enc x).toArray, .agg (enc y).toArray] ++ cb) p.w fun e w'' => e = .returned (.int .i64 (cf x y)) ∧ ∃ q : WIn (fun W => SW enc k w blk off dk W), w'' = q.w :=
 Calls.cls ((h.call p.w p.ok.rest x y).mono fun _ _ ⟨he, hb⟩ => ⟨he, p.ok.below hb⟩)
theorem CmpB.later {g : Nat} {cb : Array Value} {enc : α → List Value} {cf : α → α → Int} {w W : World} {blk : Nat} (h : CmpB P g cb enc cf w blk) (hg : w.grownBy W (some blk)) : CmpB P g cb enc cf W blk :=
 ⟨h.eg, fun W' hW => h.call W' (qat hg hW)⟩
def qcM (enc : α → List Value) (k : Nat) (cf : α → α → Int) (w : World) (blk off : Nat) (d : Array α) (a b : Nat) (e : Ending) (w' : World) : Prop :=
 e = .returned (.tuple #[]) ∧ SW enc k w blk off (insertionSort (Stb.lb cf) d a b) w'
theorem qbT {k : Nat} (L : SLay P k) (hF : P.funcs[79]? = some Tryz.f79) (enc : α → List Value) (hk : ∀ x, (enc x).length = k) (h1 : ∀ x, ∀ v ∈ enc x, v.oneCell' = true) (cf : α → α → Int) (g : Nat) (cb : Array Value)
 (blk off cap a b : Nat) (d : Array α) (w : World) (hcmp : CmpB P g cb enc cf w blk) (hH : HoldsK enc k w blk off d) (hblk : blk < w.heap.size) (hab : a ≤ b) (hb : b ≤ d.size) (hsz : d.size < 4611686018427387904) :
 Calls P 79 #[.slice (some ⟨blk, off, none⟩) d.size cap, .int .i64 a, .int .i64 b, .func (.func g) #[] cb] w (qcM enc k cf w blk off d a b) := by
 have mixed := L.mixed; have t0 := L.t0; have a0 := L.a0; have z0 := L.z0; have v0 := L.v0; have t3 := L.t3; have a3 := L.a3; have z3 := L.z3; have v3 := L.v3; have t4 := L.t4; have a4 := L.a4; have z4 := L.z4; have v4 := L.v4; have t85 := L.t85; have a85 := L.a85; have z85 := L.z85; have v85 := L.v85; have t43 := L.t43; have a43 := L.a43; have z43 := L.z43; have v43 := L.v43; have t69 := L.t69; have a69 := L.a69; have z69 := L.z69; have v69 := L.v69; have aE := L.aE; have zE := L.zE
 have u43 := run_underlying L.t43
 have HC := qH0 hcmp
 have eg := hcmp.eg
 have HK := qH0 hk; have H1 := qH0 h1
 have HST : Hid (SW enc k w blk off d w) := qH0 (SW.refl hH hblk)
 clear hcmp hH hk h1 hblk
 go_enter hF, Tryz.ntmps79
 go_wp2
 go_loopg [8] (b - a) (fun g1 vi wr => ∃ (i : Nat) (dk : Array α), vi = .int .i64 i ∧ a < i ∧ i ≤ b + 1 ∧ b + 1 - i ≤ g1 + 1 ∧ dk.size = d.size ∧ Hid (SW enc k w blk off dk wr) ∧ Hid (insOuter (Stb.lb cf) a b i dk = insOuter (Stb.lb cf) a b (a + 1) d))
 case atStart => exact ⟨a + 1, d, by go_num, by omega, by omega, by omega, rfl, HST, qH0 rfl⟩
 case round =>
  obtain ⟨i, dk, rfl, hai, hib, hg1, hsk, HW, HO⟩ := hrel
  by_cases hlt : i < b
  ·have hltz : (i : Int) < (b : Int) := by omega
   go_wp2
   go_loopg [9] i (fun g2 vj wr2 => ∃ (j : Nat) (dj : Array α), vj = .int .i64 j ∧ a ≤ j ∧ j ≤ i ∧ j ≤ g2 ∧ dj.size = d.size ∧ Hid (SW enc k w blk off dj wr2) ∧ Hid (insInner (Stb.lb cf) a j dj = insInner (Stb.lb cf) a i dk))
   case atStart => exact ⟨i, dk, rfl, by omega, qN0, qN0, hsk, HW, qH0 rfl⟩
   case round =>
    obtain ⟨j, dj, rfl, haj, hji, hg2, hsj, HWj, HI⟩ := hrel
    have OUT : Hid ((j ≤ a ∨ Stb.lb cf dj[j]! dj[j - 1]! = false) → insOuter (Stb.lb cf) a b (i + 1) dj = insOuter (Stb.lb cf) a b (a + 1) d) := qH0 fun hs => by
     rw [← HO.out, insOuter_go _ _ _ _ _ hlt, ← HI.out, insInner_stop _ _ _ _ hs]
    by_cases hja : a < j
    ·have hjaz : (a : Int) < (j : Int) := by omega
     obtain ⟨jp, rfl⟩ : ∃ jp, j = jp + 1 := ⟨j - 1, by omega⟩
     obtain ⟨xj, hxj⟩ : ∃ x, dj[jp + 1]! = x := ⟨_, rfl⟩
     obtain ⟨xp, hxp⟩ : ∃ x, dj[jp]! = x := ⟨_, rfl⟩
     have hwp : IntKind.i64.wrap (jp : Int) = (jp : Int) := by rw [IntKind.wrap_i64]; omega
     have jz : (jp : Int) + 1 < (d.size : Int) := by omega
     have jz1 : (jp : Int) < (d.size : Int) := by omega
     have hjaz' : (a : Int) < (jp : Int) + 1 := by omega
     have p0 : (0 : Int) ≤ (jp : Int) + 1 := by omega
     have e0 : ((jp : Int) + 1).toNat = jp + 1 := by omega
     have lj : ∀ p : WIn (fun W => SW enc k w blk off dj W), Sem.run P (loadCellsFrom ⟨blk, off + (jp + 1) * k, none⟩ 0 k #[]) p.w = .ok (enc xj).toArray p.w := fun p => by
      rw [← hxj]; exact p.ok.load P HK.out (jp + 1) (by omega)
     have lp : ∀ p : WIn (fun W => SW enc k w blk off dj W), Sem.run P (loadCellsFrom ⟨blk, off + jp * k, none⟩ 0 k #[]) p.w = .ok (enc xp).toArray p.w := fun p => by
      rw [← hxp]; exact p.ok.load P HK.out jp (by omega)
     have hne : Nonempty (WIn (fun W => SW enc k w blk off dj W)) := ⟨⟨_, HWj.out.drew⟩⟩
     have hcg := fun p : WIn (fun W => SW enc k w blk off dj W) => HC.out.cls dj p xj xp
     by_cases hlv : cf xj xp < 0
     ·go_wp2_with fail
      refine qad (fun W => SW enc k w blk off dj W) mixed (by kernel_rfl) HWj.out.drew ?_
      repeat (quiet_step (first | (go_at_fn g; exact hcg _)))
      refine wpQuiet_nil ?_
      rintro _ ⟨p, rfl⟩
      go_wp2_with fail
      have hD := p.ok.drew
      have lj2 := hD.load P HK.out (jp + 1) (by omega)
      have lp2 := hD.load P HK.out jp (by omega)
      have s1 := hD.store1 P HK.out H1.out (jp + 1) (by omega) xp
      have s2 := hD.store2 P HK.out H1.out (jp + 1) jp (by omega) (by omega) xp xj
      rw [hxj] at lj2
      rw [hxp] at lp2
      have hsJ : (enc xj).length = k := HK.out _
      have hsP : (enc xp).length = k := HK.out _
      have HN : Hid (SW enc k w blk off (swp dj (jp + 1) jp) ((p.w.drew.setCells blk (off + (jp + 1) * k) (enc xp)).setCells blk (off + jp * k) (enc xj))) := by
       have := hD.swap HK.out (jp + 1) jp (by omega) (by omega)
       rw [hxj, hxp] at this
       exact qH0 this
      have HNI : Hid (insInner (Stb.lb cf) a jp (swp dj (jp + 1) jp) = insInner (Stb.lb cf) a i dk) := by
       have := insInner_go (Stb.lb cf) a (jp + 1) dj hja (by simp only [Nat.add_sub_cancel]; rw [hxj, hxp]; exact decide_eq_true hlv)
       simp only [Nat.add_sub_cancel] at this
       exact qH0 (by rw [← HI.out, this])
      obtain ⟨cJ, hcJ⟩ : ∃ c, c = enc xj := ⟨_, rfl⟩
      obtain ⟨cP, hcP⟩ : ∃ c, c = enc xp := ⟨_, rfl⟩
      rw [← hcP] at s1 lp2 hsP
      rw [← hcJ] at lj2 hsJ
      rw [← hcJ, ← hcP] at s2 HN
      clear hcJ hcP lj lp hcg hD hxj hxp
      generalize p.w = wq2 at *
      go_big_region_o
      all_goals go_wp2
      go_roundg jp
      case measure => omega
      case rel => exact ⟨jp, swp dj (jp + 1) jp, by first | rfl | go_num | (congr 1; omega), by omega, by omega, qN0, by rw [size_swp]; exact hsj, HN, HNI⟩
     ·-- not less: out of the inner loop
      go_wp2_with fail
      refine qad (fun W => SW enc k w blk off dj W) mixed (by kernel_rfl) HWj.out.drew ?_
      repeat (quiet_step (first | (go_at_fn g; exact hcg _)))
      refine wpQuiet_nil ?_
      rintro _ ⟨p, rfl⟩
      go_wp2
      go_roundg (b - (i + 1))
      case measure => omega
      case rel => exact ⟨i + 1, dj, by go_num, by omega, by omega, by omega, hsj, qH0 p.ok, qH0 (OUT.out (Or.inr (by simp only [Nat.add_sub_cancel]; rw [hxj, hxp]; exact decide_eq_false (by omega))))⟩
    ·-- j = a: out of the inner loop (the guard is false: 'cmp' is not called)
     have hjaz : decide ((j : Int) > (a : Int)) = false := decide_eq_false (by omega)
     have hjaz' : ¬ (a : Int) < (j : Int) := by omega
     go_wp2_with fail
     go_big_region_o
     all_goals go_wp2
     go_roundg (b - (i + 1))
     case measure => omega
     case rel => exact ⟨i + 1, dj, by go_num, by omega, by omega, by omega, hsj, qH0 HWj.out.drew, qH0 (OUT.out (Or.inl (by omega)))⟩
  ·have hltz : ¬ (i : Int) < (b : Int) := by omega
   go_wp2
   go_end0
   refine ⟨rfl, ?_⟩
   have h := HW.out
   unfold Sort.insertionSort
   rw [← HO.out, insOuter_stop _ _ _ _ _ hlt]
   exact h
end Go.Proofs.YtnpnfajgphpabaaGreat.Fls

namespace Go.Proofs.YtnpnfajgphpabaaGreat
set_option linter.unusedVariables false
set_option linter.unusedSimpArgs false
set_option maxRecDepth 100000
set_option maxHeartbeats 16000000
open Go.RowKit Go.Shelf
theorem qdE {α : Type} {T : TypeId} {enc : α → Value} {W : World} {base : Nat} {v : Value} {xs : List α} (h : OwnC 1 T W base v (xs.map fun x => [enc x])) : OwnG T enc W base v xs := by
 unfold OwnG
 have e : (xs.map fun x => [enc x]).flatMap (fun cs => cs) = xs.map enc := by
  have : ∀ xs : List α, (xs.map fun x => [enc x]).flatMap (fun cs => cs) = xs.map enc := fun xs => by
   induction xs with
   | nil => rfl
   | cons x r ih => rw [List.map_cons, List.flatMap_cons, ih]; rfl
  exact this xs
 unfold OwnC OwnK at h
 rw [e, List.length_map] at h
 exact h
theorem qhm {fn : Func} {t : Tmp} (h : fn.results = #[.cell t 47]) (tmps : Array Value) (W : World) {a : Nat} {x0 x1 x2 x3 x4 x5 x6 : Value}
 (ht : tmps.getD t undef = .pointer (some ⟨a, 0, none⟩)) (hb : W.heap[a]? = some (.cells #[x0, x1, x2, x3, x4, x5, x6] 47)) : (results fn tmps).run Tryz.prog W = .ok (.agg #[x0, x1, x2, x3, x4, x5, x6]) W := by
 have ht' : tmps[t]?.getD undef = .pointer (some ⟨a, 0, none⟩) := by rw [← ht]; simp
 have hu : ∀ w, Sem.run Tryz.prog (underlying 47) w = .ok _ w := run_underlying Tryz.underlying47
 have y0 := kcell hb 0 _ rfl; have y1 := kcell hb 1 _ rfl; have y2 := kcell hb 2 _ rfl; have y3 := kcell hb 3 _ rfl; have y4 := kcell hb 4 _ rfl; have y5 := kcell hb 5 _ rfl; have y6 := kcell hb 6 _ rfl
 simp [results, h, ht', loadVar, asAddr, go_sem, hu, y0, y1, y2, y3, y4, y5, y6, isAgg]
theorem OwnNms.snoc {W w' : World} {base : Nat} {v v' : Value} {vs : List SlV} {ns : List Nm} {x : SlV} {l : Nm} (h1 : OwnG 23 slEnc W base v vs) (h2 : vs.length = ns.length) (h3 : ∀ j (h1 : j < vs.length) (h2 : j < ns.length), OwnG 9 strV W base (slEnc vs[j]) ns[j])
 (hx : OwnG 9 strV W base (slEnc x) l) (hn : OwnG 23 slEnc w' base v' (vs ++ [x])) (hg : W.grownBy w' v.ownBlock) : OwnNms w' base v' (ns ++ [l]) := by
 refine ⟨vs ++ [x], hn, by simp; omega, fun j a b => ?_⟩
 by_cases hj : j < vs.length
 ·rw [List.getElem_append_left hj, List.getElem_append_left (by omega)]
  exact (h3 j hj (by omega)).kept2 h1 (by decide) hg
 ·obtain rfl : j = vs.length := by simp at a; omega
  have e1 : (vs ++ [x])[vs.length]'a = x := by simp
  have e2 : (ns ++ [l])[vs.length]'b = l := by simp [h2]
  rw [e1, e2]
  exact hx.kept2 h1 (by decide) hg
theorem DRow.keepB {W : World} {base : Nat} {vn vu vt vr : Value} {d : Dat} (h : DRow W base vn vu vt vr d) {B : Nat} {cs : Array Value} (hB : W.heap[B]? = some (.cells cs 47)) (j : Nat) (u : Value) : DRow (W.setCell ⟨B, j, none⟩ u) base vn vu vt vr d := by
 obtain ⟨⟨vs, h1, h2, h3⟩, i1, i2, i3⟩ := h
 exact ⟨⟨vs, h1.keptB hB (by decide) j u, h2, fun i a b => (h3 i a b).keptB hB (by decide) j u⟩, i1.keptB hB (by decide) j u, i2.keptB hB (by decide) j u, i3.keptB hB (by decide) j u⟩
def FrAt (W : World) (base : Nat) (cs : List Value) (r : Rc) : Prop :=
 ∃ vo vn vu vt vr, cs = [vo, .int .u32 (r.ttl : Int), .int .i64 r.data.ty, vn, vu, vt, vr] ∧ OwnG 9 strV W base vo r.owner ∧ DRow W base vn vu vt vr r.data
theorem FrAt.rcAt {W : World} {base : Nat} {cs : List Value} {r : Rc} (h : FrAt W base cs r) : RcAt W cs r := by
 obtain ⟨vo, vn, vu, vt, vr, e, h1, h2⟩ := h
 exact ⟨vo, vn, vu, vt, vr, e, h1.nmAt, h2.datAt⟩
theorem FrAt.below {W W' : World} {base : Nat} {cs : List Value} {r : Rc} (h : FrAt W base cs r) (hb : Below W.heap.size W W') : FrAt W' base cs r := by
 obtain ⟨vo, vn, vu, vt, vr, e, h1, h2⟩ := h
 exact ⟨vo, vn, vu, vt, vr, e, h1.below hb, h2.below hb⟩
theorem FrAt.keepB {W : World} {base : Nat} {cs : List Value} {r : Rc} (h : FrAt W base cs r) {B : Nat} {xs : Array Value} (hB : W.heap[B]? = some (.cells xs 47)) (j : Nat) (u : Value) : FrAt (W.setCell ⟨B, j, none⟩ u) base cs r := by
 obtain ⟨vo, vn, vu, vt, vr, e, h1, h2⟩ := h
 exact ⟨vo, vn, vu, vt, vr, e, h1.keptB hB (by decide) j u, h2.keepB hB j u⟩
theorem OwnC.ne_block {k : Nat} {T : TypeId} {W : World} {base : Nat} {v : Value} {xss : List (List Value)} (h : OwnC k T W base v xss) {B : Nat} {cs : Array Value} {t : TypeId} (hB : W.heap[B]? = some (.cells cs t)) (ht : t ≠ T) : some B ≠ v.ownBlock := by
 intro e
 rcases h.2 with ⟨rfl, _⟩ | ⟨g, cap, cur, rfl, _, hg, _⟩
 ·cases e
 ·simp only [Value.ownBlock] at e
  cases e
  rw [hg] at hB
  injection hB with hB
  injection hB with h1 h2
  exact ht h2.symm
theorem OwnG.kept_c {α : Type} {T T' : TypeId} {enc : α → Value} {W W' : World} {base base' k : Nat} {v v' : Value} {xs : List α} {yss : List (List Value)} (h : OwnG T enc W base v xs) (h' : OwnC k T' W base' v' yss) (hT : T ≠ T') (hg : W.grownBy W' v'.ownBlock) : OwnG T enc W' base v xs := by
 refine h.kept hg ?_
 rcases h.2 with ⟨rfl, _⟩ | ⟨g, cap, cur, rfl, _, hh, _⟩
 ·left; rfl
 ·right
  intro e
  exact h'.ne_block hh hT e
theorem FrAt.grown {W W' : World} {base base' : Nat} {cs : List Value} {r : Rc} {v' : Value} {yss : List (List Value)} (h : FrAt W base cs r) (h' : OwnC 7 47 W base' v' yss) (hg : W.grownBy W' v'.ownBlock) : FrAt W' base cs r := by
 obtain ⟨vo, vn, vu, vt, vr, e, h1, ⟨⟨vs, k1, k2, k3⟩, i1, i2, i3⟩⟩ := h
 exact ⟨vo, vn, vu, vt, vr, e, h1.kept_c h' (by decide) hg, ⟨⟨vs, k1.kept_c h' (by decide) hg, k2, fun i a b => (k3 i a b).kept_c h' (by decide) hg⟩, i1.kept_c h' (by decide) hg, i2.kept_c h' (by decide) hg, i3.kept_c h' (by decide) hg⟩⟩
theorem FrAt.weaken {W : World} {base b2 : Nat} {cs : List Value} {r : Rc} (h : FrAt W base cs r) (hb : b2 ≤ base) : FrAt W b2 cs r := by
 obtain ⟨vo, vn, vu, vt, vr, e, h1, ⟨⟨vs, k1, k2, k3⟩, i1, i2, i3⟩⟩ := h
 exact ⟨vo, vn, vu, vt, vr, e, h1.weaken hb, ⟨⟨vs, k1.weaken hb, k2, fun i a b => (k3 i a b).weaken hb⟩, i1.weaken hb, i2.weaken hb, i3.weaken hb⟩⟩
def qiZ (w : World) (r : Rc) (e : Ending) (w' : World) : Prop := ∃ cs, e = .returned (.agg cs.toArray) ∧ FrAt w' w.heap.size cs r ∧ Below w.heap.size w w'
structure FrB (w : World) (vo : Value) (t x : Int) (vn vu vt vr un uu ut ur : Value) (W : World) : Prop where
 p : W.heap[w.heap.size]? = some (.cells #[vo, .int .u32 t, .int .i64 x, vn, vu, vt, vr] 47)
 q : W.heap[w.heap.size + 1]? = some (.cells #[.slice none 0 0, .int .u32 0, .int .i64 0, .slice none 0 0, .slice none 0 0, .slice none 0 0, .slice none 0 0] 47)
 d : W.heap[w.heap.size + 1 + 1]? = some (.cells #[.int .i64 x, un, uu, ut, ur] 44)
theorem FrB.below {w W W' : World} {vo : Value} {t x : Int} {vn vu vt vr un uu ut ur : Value} (h : FrB w vo t x vn vu vt vr un uu ut ur W) (hb : Below W.heap.size W W') : FrB w vo t x vn vu vt vr un uu ut ur W' :=
 ⟨(hb.block _ (qaa h.p)).trans h.p, (hb.block _ (qaa h.q)).trans h.q, (hb.block _ (qaa h.d)).trans h.d⟩
theorem FrB.grown {w W W' : World} {vo : Value} {t x : Int} {vn vu vt vr un uu ut ur : Value} (h : FrB w vo t x vn vu vt vr un uu ut ur W) {α : Type} {T : TypeId} {enc : α → Value} {base : Nat} {v : Value} {xs : List α} (ho : OwnG T enc W base v xs) (h1 : 47 ≠ T) (h2 : 44 ≠ T) (hg : W.grownBy W' v.ownBlock) : FrB w vo t x vn vu vt vr un uu ut ur W' :=
 ⟨(hg.block _ (qaa h.p) (ho.ne_block h.p h1)).trans h.p, (hg.block _ (qaa h.q) (ho.ne_block h.q h1)).trans h.q, (hg.block _ (qaa h.d) (ho.ne_block h.d h2)).trans h.d⟩
theorem FrB.put {w W : World} {vo : Value} {t x : Int} {vn vu vt vr un uu ut ur : Value} (h : FrB w vo t x vn vu vt vr un uu ut ur W) (j : Nat) (u : Value) {un' uu' ut' ur' : Value} (hj : #[Value.int .i64 x, un, uu, ut, ur].setIfInBounds j u = #[.int .i64 x, un', uu', ut', ur']) :
 FrB w vo t x vn vu vt vr un' uu' ut' ur' (W.setCell ⟨w.heap.size + 1 + 1, j, none⟩ u) := by
 refine ⟨((qaf W _ j u).block _ (qaa h.p) (by simp; omega)).trans h.p, ((qaf W _ j u).block _ (qaa h.q) (by simp)).trans h.q, ?_⟩
 have := qak h.d j u
 rw [hj] at this
 exact this
structure FrR (w : World) (r : Rc) (un : Value) (W : World) : Prop where
 names : OwnNms W w.heap.size un r.data.names
 below : Below w.heap.size w W
theorem FrR.next {w W W' : World} {r : Rc} {un : Value} (h : FrR w r un W) (hb : Below W.heap.size W W') : FrR w r un W' := ⟨h.names.below hb, h.below.trans (hb.mono h.below.size)⟩
theorem FrR.put {w W : World} {r : Rc} {un : Value} (h : FrR w r un W) {cs : Array Value} (hB : W.heap[w.heap.size + 1 + 1]? = some (.cells cs 44)) (j : Nat) (u : Value) : FrR w r un (W.setCell ⟨w.heap.size + 1 + 1, j, none⟩ u) :=
 ⟨h.names.keptB hB j u, h.below.setCell (p := ⟨w.heap.size + 1 + 1, j, none⟩) (by simp; omega) u⟩
structure SF (w : World) (r : Rc) (vo : Value) (t x : Int) (vn vu vt vr un uu ut ur : Value) (W : World) : Prop where
 p : W.heap[w.heap.size]? = some (.cells #[vo, .int .u32 t, .int .i64 x, vn, vu, vt, vr] 47)
 d : W.heap[w.heap.size + 1 + 1]? = some (.cells #[.int .i64 x, un, uu, ut, ur] 44)
 q : ∃ cs, W.heap[w.heap.size + 1]? = some (.cells cs 47) ∧ cs.size = 7
 row : DRow W w.heap.size un uu ut ur r.data
 below : Below w.heap.size w W
theorem SF.keep {w W W' : World} {r : Rc} {vo : Value} {t x : Int} {vn vu vt vr un uu ut ur : Value} (h : SF w r vo t x vn vu vt vr un uu ut ur W) (hb : Below W.heap.size W W') : SF w r vo t x vn vu vt vr un uu ut ur W' := by
 obtain ⟨cs, hq, hs⟩ := h.q
 exact ⟨(hb.block _ (qaa h.p)).trans h.p, (hb.block _ (qaa h.d)).trans h.d, ⟨cs, (hb.block _ (qaa hq)).trans hq, hs⟩, h.row.below hb, h.below.trans (hb.mono h.below.size)⟩
theorem SF.put {w W : World} {r : Rc} {vo : Value} {t x : Int} {vn vu vt vr un uu ut ur : Value} (h : SF w r vo t x vn vu vt vr un uu ut ur W) (j : Nat) (u : Value) : SF w r vo t x vn vu vt vr un uu ut ur (W.setCell ⟨w.heap.size + 1, j, none⟩ u) := by
 obtain ⟨cs, hq, hs⟩ := h.q
 exact ⟨((qaf W _ j u).block _ (qaa h.p) (by simp)).trans h.p, ((qaf W _ j u).block _ (qaa h.d) (by simp)).trans h.d, ⟨_, qak hq j u, by simp [hs]⟩, h.row.keepB hq j u, h.below.setCell (p := ⟨w.heap.size + 1, j, none⟩) (by simp) u⟩
theorem arr7 {cs : Array Value} (h : cs.size = 7) : ∃ q0 q1 q2 q3 q4 q5 q6, cs = #[q0, q1, q2, q3, q4, q5, q6] := by
 obtain ⟨l⟩ := cs
 match l, h with
 | [q0, q1, q2, q3, q4, q5, q6], _ => exact ⟨q0, q1, q2, q3, q4, q5, q6, rfl⟩
def SS (w : World) (r : Rc) (vo : Value) (t x : Int) (vn vu vt vr un uu ut ur : Value) (W : World) : Prop :=
 W.cell? ⟨w.heap.size, 0, none⟩ = some vo ∧ W.cell? ⟨w.heap.size, 1, none⟩ = some (.int .u32 t) ∧ W.cell? ⟨w.heap.size + 1 + 1, 0, none⟩ = some (.int .i64 x) ∧ W.cell? ⟨w.heap.size + 1 + 1, 1, none⟩ = some un ∧ W.cell? ⟨w.heap.size + 1 + 1, 2, none⟩ = some uu ∧ W.cell? ⟨w.heap.size + 1 + 1, 3, none⟩ = some ut ∧ W.cell? ⟨w.heap.size + 1 + 1, 4, none⟩ = some ur ∧ SF w r vo t x vn vu vt vr un uu ut ur W
theorem SF.ss {w W : World} {r : Rc} {vo : Value} {t x : Int} {vn vu vt vr un uu ut ur : Value} (h : SF w r vo t x vn vu vt vr un uu ut ur W) : SS w r vo t x vn vu vt vr un uu ut ur W :=
 ⟨kcell h.p 0 _ rfl, kcell h.p 1 _ rfl, kcell h.d 0 _ rfl, kcell h.d 1 _ rfl, kcell h.d 2 _ rfl, kcell h.d 3 _ rfl, kcell h.d 4 _ rfl, h⟩
theorem SS.sf {w W : World} {r : Rc} {vo : Value} {t x : Int} {vn vu vt vr un uu ut ur : Value} (h : SS w r vo t x vn vu vt vr un uu ut ur W) : SF w r vo t x vn vu vt vr un uu ut ur W := h.2.2.2.2.2.2.2
theorem qjh (cs : List Value) (r : Rc) (w : World) (hA : RcAt w cs r) (hk : RcOK r) :
 Calls Tryz.prog 58 #[.agg cs.toArray] w (qiZ w r) := by
 obtain ⟨vo, vn, vu, vt, vr, rfl, a1, a2⟩ := hA
 obtain ⟨un, uu, ut, ur, e, n1, n2, n3, n4⟩ := a2
 have e' : #[Value.int .i64 r.data.ty, vn, vu, vt, vr] = #[Value.int .i64 r.data.ty, un, uu, ut, ur] := by injection e
 simp only [Array.mk.injEq, List.cons.injEq, and_true, true_and] at e'
 obtain ⟨rfl, rfl, rfl, rfl⟩ := e'
 clear e
 have HA := qH0 a1
 have HU := qH0 n2
 have HTX := qH0 n3
 have HRW := qH0 n4
 have HNMS := qH0 n1
 obtain ⟨vs, s1, sl, s2⟩ := n1
 obtain ⟨an, cn, rfl, x1⟩ := id s1
 obtain ⟨ao, co, rfl, -⟩ := nmAt_sl.1 a1
 obtain ⟨au, cu, rfl, -⟩ := n2
 obtain ⟨ax, cx, rfl, -⟩ := nmAt_sl.1 n3
 obtain ⟨ar, cr, rfl, -⟩ := n4
 obtain ⟨no, hno⟩ : ∃ m, (List.map strV r.owner).length = m := ⟨_, rfl⟩
 obtain ⟨nu, hnu⟩ : ∃ m, (List.map u32V r.data.nums).length = m := ⟨_, rfl⟩
 obtain ⟨nx, hnx⟩ : ∃ m, (List.map strV r.data.texts).length = m := ⟨_, rfl⟩
 obtain ⟨nr, hnr⟩ : ∃ m, (List.map bv r.data.raw).length = m := ⟨_, rfl⟩
 obtain ⟨n, hn⟩ : ∃ n, vs.length = n := ⟨_, rfl⟩
 obtain ⟨x, hx⟩ : ∃ x, r.data.ty = x := ⟨_, rfl⟩
 obtain ⟨t, ht⟩ : ∃ t, (r.ttl : Int) = t := ⟨_, rfl⟩
 have hnb : n ≤ 1048576 := by have := hk.2.2.2.1; omega
 have hcl : ∀ W, Below w.heap.size w W → ∀ j (hj : j < vs.length), ∃ b off, an = some ⟨b, off, none⟩ ∧ b < w.heap.size ∧ W.cell? ⟨b, off + j, none⟩ = some vs[j] := fun W hb j hj => s1.cell hb j hj
 have s2' : ∀ j (h1 : j < vs.length) (h2 : j < r.data.names.length), NmAt w vs[j] r.data.names[j] := fun j h1 _ => s2 j h1
 have HS2 := qH0 s2'
 have HK := qH0 hk; have HN := qH0 hn; have HX := qH0 hx; have HT := qH0 ht; have HSL := qH0 sl
 rw [hno] at HA ⊢
 rw [hnu] at HU ⊢
 rw [hnx] at HTX ⊢
 rw [hnr] at HRW ⊢
 rw [hn] at HNMS s1 ⊢
 rw [hx, ht]
 have hncn : n ≤ cn := by omega
 have HCL := qH0 hcl
 clear a1 s2 s2' hk hn hx ht hno hnu hnx hnr sl x1 hcl s1
 obtain ⟨W3, hW3⟩ : ∃ W3, ((w.alloc (.cells #[.slice ao no co, .int .u32 t, .int .i64 x, .slice an n cn, .slice au nu cu, .slice ax nx cx, .slice ar nr cr] 47)).alloc (.cells #[.slice none 0 0, .int .u32 0, .int .i64 0, .slice none 0 0, .slice none 0 0, .slice none 0 0, .slice none 0 0] 47)).alloc (.cells #[.int .i64 x, .slice an n cn, .slice au nu cu, .slice ax nx cx, .slice ar nr cr] 44) = W3 := ⟨_, rfl⟩
 have HF0 : Hid (FrB w (.slice ao no co) t x (.slice an n cn) (.slice au nu cu) (.slice ax nx cx) (.slice ar nr cr) (.slice an n cn) (.slice au nu cu) (.slice ax nx cx) (.slice ar nr cr) W3) := by
  rw [← hW3]
  refine qH0 ⟨?_, ?_, ?_⟩
  ·exact (Below.heap_alloc _ _ _ (by simp; omega)).trans ((Below.heap_alloc _ _ _ (by simp)).trans (knew w _))
  ·have := knew (w.alloc (.cells #[.slice ao no co, .int .u32 t, .int .i64 x, .slice an n cn, .slice au nu cu, .slice ax nx cx, .slice ar nr cr] 47)) (.cells #[.slice none 0 0, .int .u32 0, .int .i64 0, .slice none 0 0, .slice none 0 0, .slice none 0 0, .slice none 0 0] 47)
   rw [World.size_alloc] at this
   exact (Below.heap_alloc _ _ _ (by simp)).trans this
  ·have := knew ((w.alloc (.cells #[.slice ao no co, .int .u32 t, .int .i64 x, .slice an n cn, .slice au nu cu, .slice ax nx cx, .slice ar nr cr] 47)).alloc (.cells #[.slice none 0 0, .int .u32 0, .int .i64 0, .slice none 0 0, .slice none 0 0, .slice none 0 0, .slice none 0 0] 47)) (.cells #[.int .i64 x, .slice an n cn, .slice au nu cu, .slice ax nx cx, .slice ar nr cr] 44)
   rw [World.size_alloc, World.size_alloc] at this
   exact this
 have HB0 : Hid (Below w.heap.size w W3) := by rw [← hW3]; exact qH0 ((((Below.refl _ w).alloc (qN0) _).alloc (by simp) _).alloc (by simp; omega) _)
 have HW3 := qH0 hW3
 clear hW3
 go_enter Tryz.func58, Tryz.ntmps58
 go_wp2
 rw [HW3.out]
 go_loopw [4, 12] (fun v4 vi wr => ∃ (k : Nat) (ga : Option Addr) (gc : Nat), v4 = .slice ga k gc ∧ vi = .int .i64 k ∧ k ≤ n ∧ Hid (OwnNms wr w.heap.size (.slice ga k gc) (r.data.names.take k)) ∧ Hid (FrB w (.slice ao no co) t x (.slice an n cn) (.slice au nu cu) (.slice ax nx cx) (.slice ar nr cr) (.slice an n cn) (.slice au nu cu) (.slice ax nx cx) (.slice ar nr cr) wr) ∧ Hid (Below w.heap.size w wr)) (fun _ vi _ => n - (intOf vi).toNat)
 case atStart => exact ⟨0, none, 0, rfl, rfl, Nat.zero_le _, qH0 (OwnNms.nil _ _), HF0, HB0⟩
 case round =>
  obtain ⟨k, ga, gc, rfl, rfl, hk, HO, HF, HB⟩ := hrel
  by_cases hlt : k < n
  ·have hltz : (k : Int) < (n : Int) := by omega
   have hk1 : k < vs.length := by have := HN.out; omega
   have hk2 : k < r.data.names.length := by have := HSL.out; omega
   obtain ⟨b, off, rfl, hb, hcell⟩ := HCL.out wr HB.out k hk1
   have hnm := HS2.out k hk1 hk2
   have hnmr := hnm.below (W' := wr) HB.out
   have hok : NmOK r.data.names[k] := HK.out.2.2.2.2.1 _ (List.getElem_mem hk2)
   obtain ⟨av, cv, ev, -⟩ := nmAt_sl.1 hnm
   rw [ev] at hcell hnmr
   obtain ⟨m, hm⟩ : ∃ m, (List.map strV r.data.names[k]).length = m := ⟨_, rfl⟩
   rw [hm] at hcell hnmr
   have hcl := fun W (hb : Below wr.heap.size wr W) => qbr (.slice av m cv) r.data.names[k] W (hnmr.below hb).1 (hnmr.below hb).2 (by have := hok.1; omega)
   have hc0 := hcl wr (qL0)
   have HK2 := qH0 hk2
   have HTK := qH0 (show r.data.names.take (k + 1) = r.data.names.take k ++ [r.data.names[k]] from List.take_succ_eq_append_getElem hk2)
   generalize r.data.names[k] = nm at hc0 HTK
   clear hcl hnm hnmr hok ev hm hk1 hk2
   go_wp2_with fail
   refine hc0.mono ?_
   rintro e w2 ⟨v', rfl, hown, hb2⟩
   have HF2 := qH0 (HF.out.below hb2)
   have HB2 := qH0 (qB0 HB.out hb2)
   obtain ⟨a2, c2, rfl⟩ := hown.shape
   obtain ⟨m2, hm2⟩ : ∃ m, nm.length = m := ⟨_, rfl⟩
   obtain ⟨vs', hv1, hv2, hv3⟩ := HO.out.below hb2
   have hvk : vs'.length = k := by rw [hv2, List.length_take]; have := HK2.out; omega
   have hown' : OwnG 9 strV w2 w.heap.size (slEnc (a2, m2, c2)) nm := by rw [← hm2]; exact hown.weaken HB.out.size
   have HV := qH0 (And.intro hv2 hv3)
   have HOWN := qH0 hown'
   have HC := qH0 (show [Value.slice a2 m2 c2] = [((a2, m2, c2) : SlV)].map slEnc from rfl)
   have hz2 := HB2.out.size
   have HVK := qH0 hvk
   rw [hm2]
   clear hv2 hv3 hown hown' hm2 hb2 hc0 hcell hvk
   go_wp2_with (at_builtin; refine qaN w2 rfl (.tmp 16) (.tmp 19) qjD rfl qjv w.heap.size (.slice ga k gc) vs' rfl hv1 [.slice a2 m2 c2] [((a2, m2, c2) : SlV)] HC.out 1 1 rfl rfl hz2 (by have := HVK.out; unfold maxLen; simp; omega) (by have := HVK.out; simp; omega) ?_; intro v3 w3 hown3 hg3)
   have HO3 : Hid (OwnNms w3 w.heap.size v3 (r.data.names.take (k + 1))) := by
    rw [HTK.out]
    exact qH0 (OwnNms.snoc hv1 HV.out.1 HV.out.2 HOWN.out hown3 hg3)
   have HF3 := qH0 (HF2.out.grown hv1 (by decide) (by decide) hg3)
   have HB3 := qH0 (HB2.out.grown hg3 hz2 hv1.base_le)
   obtain ⟨a3, c3, rfl⟩ := hown3.shape
   have hl3 : (vs' ++ [((a2, m2, c2) : SlV)]).length = k + 1 := by rw [List.length_append, HVK.out]; rfl
   rw [hl3] at HO3
   clear hown3 hg3 hv1
   go_roundw
   case measure => simp [intOf]; omega
   case rel => exact ⟨k + 1, a3, c3, by rw [hl3], by go_num, by omega, HO3, HF3, HB3⟩
  ·obtain rfl : k = n := by omega
   have HO1 : Hid (OwnNms wr w.heap.size (.slice ga k gc) r.data.names) := by
    have h := HO.out
    rw [List.take_of_length_le (by have := HN.out; have := HSL.out; omega)] at h
    exact qH0 h
   have HFR1 : Hid (FrR w r (.slice ga k gc) (wr.setCell ⟨w.heap.size + 1 + 1, 1, none⟩ (.slice ga k gc))) := qH0 (FrR.put ⟨HO1.out, HB.out⟩ HF.out.d 1 _)
   have HF1 : Hid (FrB w (.slice ao no co) t x (.slice an k cn) (.slice au nu cu) (.slice ax nx cx) (.slice ar nr cr) (.slice ga k gc) (.slice au nu cu) (.slice ax nx cx) (.slice ar nr cr) (wr.setCell ⟨w.heap.size + 1 + 1, 1, none⟩ (.slice ga k gc))) := qH0 (HF.out.put 1 _ rfl)
   have d1 := kcell HF.out.d 1 _ rfl
   have f1 := qag HF.out.d 1
   have d2 := kcell HF.out.d 2 _ rfl
   have d2' := kcell HF1.out.d 2 _ rfl
   have hcu := qiT (.slice au nu cu) ((r.data.nums.map u32V).map fun x => [x]) (wr.setCell ⟨w.heap.size + 1 + 1, 1, none⟩ (.slice ga k gc)) (qfu (HU.out.below HFR1.out.below)) (by simp) (by simp [u32V]; try (intros; rfl)) (by simp; have := HK.out.2.2.2.2.2.1; omega)
   clear HO HO1 HB HCL HS2
   go_wp2_with fail
   refine hcu.mono ?_
   rintro e w4 ⟨v4, rfl, ho4, hb4⟩
   obtain ⟨m4, hm4⟩ : ∃ m, r.data.nums.length = m := ⟨_, rfl⟩
   have ho4' : OwnG 45 u32V w4 w.heap.size v4 r.data.nums := by
    rw [List.map_map] at ho4
    exact (qdE ho4).weaken HFR1.out.below.size
   obtain ⟨a4, c4, rfl⟩ := ho4'.shape
   have hf4 := HF1.out.below hb4
   have HFRA := qH0 ((HFR1.out.next hb4).put hf4.d 2 (.slice a4 r.data.nums.length c4))
   have HFA := qH0 (hf4.put 2 (.slice a4 r.data.nums.length c4) rfl)
   have HNA := qH0 (ho4'.keptB hf4.d (by decide) 2 (.slice a4 r.data.nums.length c4))
   have d3 := kcell hf4.d 2 _ rfl
   have f3 := qag hf4.d 2
   have d4 := kcell HFA.out.d 3 _ rfl
   have hcx := qjI (.slice ax nx cx) ((r.data.texts.map strV).map fun x => [x]) _ (qfu (nmAt_sl.1 (HTX.out.below HFRA.out.below))) (by simp) (by simp [strV]; try (intros; rfl)) (by simp; have := HK.out.2.2.2.2.2.2.2.1.1; omega)
   rw [hm4] at HFRA HFA HNA hcx d4 ⊢
   clear ho4 ho4' hf4 hb4 d1 f1 d2 d2' HFR1 HF1 HF hcu
   go_wp2_with fail
   refine hcx.mono ?_
   rintro e w5 ⟨v5, rfl, ho5, hb5⟩
   obtain ⟨m5, hm5⟩ : ∃ m, r.data.texts.length = m := ⟨_, rfl⟩
   have ho5' : OwnG 9 strV w5 w.heap.size v5 r.data.texts := by
    rw [List.map_map] at ho5
    exact (qdE ho5).weaken HFRA.out.below.size
   obtain ⟨a5, c5, rfl⟩ := ho5'.shape
   have hf5 := HFA.out.below hb5
   have HFRB := qH0 ((HFRA.out.next hb5).put hf5.d 3 (.slice a5 r.data.texts.length c5))
   have HFB := qH0 (hf5.put 3 (.slice a5 r.data.texts.length c5) rfl)
   have HNB := qH0 ((HNA.out.below hb5).keptB hf5.d (by decide) 3 (.slice a5 r.data.texts.length c5))
   have HXB := qH0 (ho5'.keptB hf5.d (by decide) 3 (.slice a5 r.data.texts.length c5))
   have d5 := kcell hf5.d 3 _ rfl
   have f5 := qag hf5.d 3
   have d6 := kcell HFB.out.d 4 _ rfl
   have hcr := qij (.slice ar nr cr) ((r.data.raw.map bv).map fun x => [x]) _ (qfu (HRW.out.below HFRB.out.below)) (by simp) (by simp [bv]; try (intros; rfl)) (by simp; have := HK.out.2.2.2.2.2.2.2.2; omega)
   rw [hm5] at HFRB HFB HNB HXB hcr d6 ⊢
   clear ho5 ho5' hf5 hb5 d3 f3 d4 HFRA HFA HNA hcx
   go_wp2_with fail
   refine hcr.mono ?_
   rintro e w6 ⟨v6, rfl, ho6, hb6⟩
   obtain ⟨m6, hm6⟩ : ∃ m, r.data.raw.length = m := ⟨_, rfl⟩
   have ho6' : OwnG 5 bv w6 w.heap.size v6 r.data.raw := by
    rw [List.map_map] at ho6
    exact (qdE ho6).weaken HFRB.out.below.size
   obtain ⟨a6, c6, rfl⟩ := ho6'.shape
   have hf6 := HFB.out.below hb6
   have HFRC := qH0 ((HFRB.out.next hb6).put hf6.d 4 (.slice a6 r.data.raw.length c6))
   have HFC := qH0 (hf6.put 4 (.slice a6 r.data.raw.length c6) rfl)
   have HNC := qH0 ((HNB.out.below hb6).keptB hf6.d (by decide) 4 (.slice a6 r.data.raw.length c6))
   have HXC := qH0 ((HXB.out.below hb6).keptB hf6.d (by decide) 4 (.slice a6 r.data.raw.length c6))
   have HRC := qH0 (ho6'.keptB hf6.d (by decide) 4 (.slice a6 r.data.raw.length c6))
   have d7 := kcell hf6.d 4 _ rfl
   have f7 := qag hf6.d 4
   rw [hm6] at HFRC HFC HNC HXC HRC ⊢
   clear ho6 ho6' hf6 hb6 d5 f5 d6 HFRB HFB HNB HXB hcr
   go_wp2_with fail
   have hSF0 : SF w r (.slice ao no co) t x (.slice an k cn) (.slice au nu cu) (.slice ax nx cx) (.slice ar nr cr) (.slice ga k gc) (.slice a4 m4 c4) (.slice a5 m5 c5) (.slice a6 m6 c6) (w6.setCell ⟨w.heap.size + 1 + 1, 4, none⟩ (.slice a6 m6 c6)) :=
    ⟨HFC.out.p, HFC.out.d, ⟨_, HFC.out.q, rfl⟩, ⟨HFRC.out.names, HNC.out, HXC.out, HRC.out⟩, HFRC.out.below⟩
   generalize w6.setCell ⟨w.heap.size + 1 + 1, 4, none⟩ (.slice a6 m6 c6) = wB at hSF0 ⊢
   have hS0 := hSF0.ss
   have HCN := qH0 (fun (W : World) (h : SS w r (.slice ao no co) t x (.slice an k cn) (.slice au nu cu) (.slice ax nx cx) (.slice ar nr cr) (.slice ga k gc) (.slice a4 m4 c4) (.slice a5 m5 c5) (.slice a6 m6 c6) W) => qbr (.slice ao no co) r.owner W (HA.out.below h.sf.below).1 (HA.out.below h.sf.below).2 (by have := HK.out.1.1; omega))
   have KS := qH0 (fun (W W' : World) (h : SS w r (.slice ao no co) t x (.slice an k cn) (.slice au nu cu) (.slice ax nx cx) (.slice ar nr cr) (.slice ga k gc) (.slice a4 m4 c4) (.slice a5 m5 c5) (.slice a6 m6 c6) W) (hb : Below W.heap.size W W') => (h.sf.keep hb).ss)
   have KP := qH0 (fun (W : World) (y0 y1 y2 y3 y4 y5 y6 : Value) (h : SS w r (.slice ao no co) t x (.slice an k cn) (.slice au nu cu) (.slice ax nx cx) (.slice ar nr cr) (.slice ga k gc) (.slice a4 m4 c4) (.slice a5 m5 c5) (.slice a6 m6 c6) W) => (((((((h.sf.put 0 y0).put 1 y1).put 2 y2).put 3 y3).put 4 y4).put 5 y5).put 6 y6).ss)
   have KD := qH0 (fun (W : World) (h : SS w r (.slice ao no co) t x (.slice an k cn) (.slice au nu cu) (.slice ax nx cx) (.slice ar nr cr) (.slice ga k gc) (.slice a4 m4 c4) (.slice a5 m5 c5) (.slice a6 m6 c6) W) => KS.out W W.drew h (qaz (qL0) 1))
   unfold SS at hS0 HCN KS KP KD
   clear hSF0 d7 f7 HFRC HFC HNC HXC HRC HU HTX HRW HNMS
   go_region_held3 (fun W => W.cell? ⟨w.heap.size, 0, none⟩ = some (.slice ao no co) ∧ W.cell? ⟨w.heap.size, 1, none⟩ = some (.int .u32 t) ∧ W.cell? ⟨w.heap.size + 1 + 1, 0, none⟩ = some (.int .i64 x) ∧ W.cell? ⟨w.heap.size + 1 + 1, 1, none⟩ = some (.slice ga k gc) ∧ W.cell? ⟨w.heap.size + 1 + 1, 2, none⟩ = some (.slice a4 m4 c4) ∧ W.cell? ⟨w.heap.size + 1 + 1, 3, none⟩ = some (.slice a5 m5 c5) ∧ W.cell? ⟨w.heap.size + 1 + 1, 4, none⟩ = some (.slice a6 m6 c6) ∧ SF w r (.slice ao no co) t x (.slice an k cn) (.slice au nu cu) (.slice ax nx cx) (.slice ar nr cr) (.slice ga k gc) (.slice a4 m4 c4) (.slice a5 m5 c5) (.slice a6 m6 c6) W)
    (first | with_reducible assumption | (with_reducible exact KD.out _ (by with_reducible assumption)) | (with_reducible exact KP.out _ _ _ _ _ _ _ _ (by with_reducible assumption)))
    (first | ((with_reducible refine (HCN.out _ (by with_reducible assumption)).mono ?_); rintro e w7 ⟨v7, rfl, ho7, hb7⟩; obtain ⟨a7, c7, rfl⟩ := ho7.shape; have hS2 := KS.out _ _ (by assumption) hb7; have hq7 := hS2.2.2.2.2.2.2.2.q; obtain ⟨cs7, hq7, hs7⟩ := hq7; obtain ⟨q0, q1, q2, q3, q4, q5, q6, rfl⟩ := arr7 hs7; have fz0 := qag hq7 0; have cl0 := kcell hq7 0 _ rfl; have fz1 := qag hq7 1; have cl1 := kcell hq7 1 _ rfl; have fz2 := qag hq7 2; have cl2 := kcell hq7 2 _ rfl; have fz3 := qag hq7 3; have cl3 := kcell hq7 3 _ rfl; have fz4 := qag hq7 4; have cl4 := kcell hq7 4 _ rfl; have fz5 := qag hq7 5; have cl5 := kcell hq7 5 _ rfl; have fz6 := qag hq7 6; have cl6 := kcell hq7 6 _ rfl))
   go_wp2_with fail
   have HS7 := hS2.2.2.2.2.2.2.2
   have hsz : w.heap.size ≤ wB.heap.size := hS0.2.2.2.2.2.2.2.below.size
   have hown7 : OwnG 9 strV w7 w.heap.size (.slice a7 r.owner.length c7) r.owner := ho7.weaken hsz
   clear ho7
   have hb_0 := qak hq7 0 (.slice a7 r.owner.length c7)
   have ho_0 := hown7.keptB hq7 (by decide) 0 (.slice a7 r.owner.length c7)
   have hb_1 := qak hb_0 1 (.int .u32 t)
   have ho_1 := ho_0.keptB hb_0 (by decide) 1 (.int .u32 t)
   have hb_2 := qak hb_1 2 (.int .i64 x)
   have ho_2 := ho_1.keptB hb_1 (by decide) 2 (.int .i64 x)
   have hb_3 := qak hb_2 3 (.slice ga k gc)
   have ho_3 := ho_2.keptB hb_2 (by decide) 3 (.slice ga k gc)
   have hb_4 := qak hb_3 4 (.slice a4 m4 c4)
   have ho_4 := ho_3.keptB hb_3 (by decide) 4 (.slice a4 m4 c4)
   have hb_5 := qak hb_4 5 (.slice a5 m5 c5)
   have ho_5 := ho_4.keptB hb_4 (by decide) 5 (.slice a5 m5 c5)
   have hb_6 := qak hb_5 6 (.slice a6 m6 c6)
   have ho_6 := ho_5.keptB hb_5 (by decide) 6 (.slice a6 m6 c6)
   have hsN := (((((((HS7.put 0 (.slice a7 r.owner.length c7)).put 1 (.int .u32 t)).put 2 (.int .i64 x)).put 3 (.slice ga k gc)).put 4 (.slice a4 m4 c4)).put 5 (.slice a5 m5 c5)).put 6 (.slice a6 m6 c6))
   have hqN : (_ : World).heap[w.heap.size + 1]? = some (.cells #[.slice a7 r.owner.length c7, .int .u32 t, .int .i64 x, .slice ga k gc, .slice a4 m4 c4, .slice a5 m5 c5, .slice a6 m6 c6] 47) := hb_6
   refine bodyPost_ret (qhm rfl _ _ rfl hqN) rfl ?_
   exact ⟨[.slice a7 r.owner.length c7, .int .u32 t, .int .i64 x, .slice ga k gc, .slice a4 m4 c4, .slice a5 m5 c5, .slice a6 m6 c6], rfl, ⟨_, _, _, _, _, by rw [HT.out, HX.out], ho_6, hsN.row⟩, hsN.below⟩
theorem qcQ {S T : TypeId} {k bytes : Nat} {F : Fence} {n : Nat} {ops : Array Oper} {rest : List Oper} {o : Oper} {a : Act} {Q : Exit → Act → World → Prop} (W : World) (hgd : o.guard = none) (s x : Operand) (hE : ElemK k T S bytes) (hk0 : 0 < k)
 (ho : o.op = .call { callee := .builtin .append, args := #[s, x], argTypes := #[S, S] })
 (base : Nat) (v : Value) (xs : List (List Value)) (hs : a.eval s = v) (hown : OwnC k T W base v xs)
 (cs : List Value) (hcl : cs.length = k) (hc1 : ∀ u ∈ cs, u.oneCell' = true) (c : Nat) (hx : a.eval x = .slice (some ⟨W.heap.size, 0, none⟩) 1 c)
 (hbase : base ≤ W.heap.size) (hk : xs.length + 1 ≤ maxLen) (hk2 : (xs.length + 1) * bytes ≤ 140737488355328)
 (h : ∀ v' w', OwnC k T w' base v' (xs ++ [cs]) → W.grownBy w' v.ownBlock → wpListIn F n Tryz.prog ops Q rest (a.put o.dst v') w') :
 wpListIn F n Tryz.prog ops Q (o :: rest) a (W.alloc (.cells cs.toArray T)) := by
 obtain ⟨ht, i, z, hi, hz, hz1, hz2, hzc⟩ := hE
 refine wpListIn_append_own _ hgd s x S ho base T i z k bytes ht hi hz hz1 hz2 hzc hk0 v xs.length (xs.flatMap fun cs => cs) hs (hown.alloc _) ⟨W.heap.size, 0, none⟩ 1 c cs hx (by omega) (qba W _ _) hc1 hk hk2 (by simp; omega) ?_
 intro v' w' h1 h2 _
 refine h v' w' ?_ (qaY h2)
 unfold OwnC OwnK
 rw [List.length_append, List.flatMap_append]
 have e : [cs].flatMap (fun cs => cs) = cs := by simp
 rw [e]
 exact h1
theorem qjQ (a : Option Addr) (n c : Nat) (w : World) :
 Calls Tryz.prog 54 #[.slice a n c, .func (.func 57) #[] #[]] w fun e w' => e = .returned (.func (.func 81) #[] #[.pointer (some ⟨w.heap.size, 0, none⟩), .pointer (some ⟨w.heap.size + 1, 0, none⟩)]) ∧ w' = (w.alloc (.cells #[.slice a n c] 24)).alloc (.cells #[.func (.func 57) #[] #[]] 112) := by
 go_enter Tryz.func54, Tryz.ntmps54
 go_wp2
 go_ret
 exact ⟨rfl, rfl⟩
structure KpX (n0 B : Nat) (W W' : World) : Prop where
 os : W'.os = W.os
 tape : W'.tape = W.tape
 output : W'.output = W.output
 size : W.heap.size ≤ W'.heap.size
 block : ∀ k, k < n0 → k ≠ B → W'.heap[k]? = W.heap[k]?
theorem KpX.refl (n0 B : Nat) (W : World) : KpX n0 B W W := ⟨rfl, rfl, rfl, qN0, fun _ _ _ => rfl⟩
theorem KpX.trans {n0 B : Nat} {W W' W'' : World} (h : KpX n0 B W W') (k : KpX n0 B W' W'') : KpX n0 B W W'' :=
 ⟨k.os.trans h.os, k.tape.trans h.tape, k.output.trans h.output, Nat.le_trans h.size k.size, fun i a b => (k.block i a b).trans (h.block i a b)⟩
theorem KpX.grown {n0 B : Nat} {W W' : World} {row : Option Nat} (hn : n0 ≤ W.heap.size) (hg : W.grownBy W' row) (hr : ∀ r, row = some r → n0 ≤ r ∨ r = B) : KpX n0 B W W' :=
 ⟨hg.os, hg.tape, hg.output, hg.size, fun i a b => hg.block i (by omega) (fun e => by rcases hr i e.symm with h | h <;> omega)⟩
theorem qbo {W W' : World} (hb : Below W.heap.size W W') : W.grownBy W' none := ⟨hb.os, hb.tape, hb.output, hb.size, fun k hk _ => hb.block k hk⟩
theorem KpX.of_below {n0 B : Nat} {W W' : World} (hn : n0 ≤ W.heap.size) (hb : Below W.heap.size W W') : KpX n0 B W W' := KpX.grown hn (qbo hb) (fun r e => by cases e)
theorem KpX.below {n0 B m : Nat} {W W' : World} (h : KpX n0 B W W') (h1 : m ≤ B) (h2 : m ≤ n0) : Below m W W' := ⟨h.os, h.tape, h.output, h.size, fun k hk => h.block k (by omega) (by omega)⟩
theorem OwnG.keptO {α : Type} {T : TypeId} {enc : α → Value} {W W' : World} {row : Option Nat} {base : Nat} {v : Value} {xs : List α} (h : OwnG T enc W base v xs) (hg : W.grownBy W' row) (hr : ∀ r, row = some r → ∃ o : Obj, W.heap[r]? = some o ∧ o.isCells = false) : OwnG T enc W' base v xs := by
 cases row with
 | none => exact h.kept hg (by cases v.ownBlock <;> simp)
 | some r =>
  obtain ⟨o, h1, h2⟩ := hr r rfl
  exact h.kept hg (.inr fun e => h.ne_of h1 h2 e.symm)
theorem FrAt.keptO {W W' : World} {row : Option Nat} {base : Nat} {cs : List Value} {r : Rc} (h : FrAt W base cs r) (hg : W.grownBy W' row) (hr : ∀ r, row = some r → ∃ o : Obj, W.heap[r]? = some o ∧ o.isCells = false) : FrAt W' base cs r := by
 obtain ⟨vo, vn, vu, vt, vr, e, h1, ⟨⟨vs, k1, k2, k3⟩, i1, i2, i3⟩⟩ := h
 exact ⟨vo, vn, vu, vt, vr, e, h1.keptO hg hr, ⟨⟨vs, k1.keptO hg hr, k2, fun i a b => (k3 i a b).keptO hg hr⟩, i1.keptO hg hr, i2.keptO hg hr, i3.keptO hg hr⟩⟩
theorem OwnC.blk {k : Nat} {T : TypeId} {W : World} {base : Nat} {v : Value} {xss : List (List Value)} (h : OwnC k T W base v xss) : ∀ b, v.ownBlock = some b → ∃ cs, W.heap[b]? = some (.cells cs T) := by
 intro b e
 rcases h.2 with ⟨rfl, _⟩ | ⟨g, cap, cur, rfl, _, hg, _⟩
 ·cases e
 ·simp only [Value.ownBlock] at e
  cases e
  exact ⟨_, hg⟩
theorem OwnC.keptO {k : Nat} {T : TypeId} {W W' : World} {row : Option Nat} {base : Nat} {v : Value} {xss : List (List Value)} (h : OwnC k T W base v xss) (hg : W.grownBy W' row) (hr : ∀ r, row = some r → ∃ o : Obj, W.heap[r]? = some o ∧ o.isCells = false) : OwnC k T W' base v xss := by
 refine OwnK.kept h hg ?_
 cases row with
 | none => cases v.ownBlock <;> simp
 | some r =>
  obtain ⟨o, h1, h2⟩ := hr r rfl
  right
  intro e
  obtain ⟨cs, h3⟩ := h.blk r e
  rw [h1] at h3; cases h3; cases h2
def OutAt (n0 B : Nat) (rs : List Rc) (xs : List (Nat × Nat)) (W : World) : Prop :=
 ∃ v css, Boxed W B 24 v ∧ OwnC 7 47 W n0 v css ∧ css.length = xs.length ∧ ∀ j (h1 : j < css.length) (h2 : j < xs.length), FrAt W n0 css[j] (runR rs xs[j])
def CanI (n0 B : Nat) (W0 : World) (rs : List Rc) {n : Nat} (pre : List (Seg n)) (W : World) : Prop := KpX n0 B W0 W ∧ OutAt n0 B rs (pre.map (·.1)) W
theorem OutAt.keptO {n0 B : Nat} {rs : List Rc} {xs : List (Nat × Nat)} {W W' : World} {row : Option Nat} (hB : B < n0) (h : OutAt n0 B rs xs W) (hg : W.grownBy W' row) (hr : ∀ r, row = some r → n0 ≤ r ∧ ∃ o : Obj, W.heap[r]? = some o ∧ o.isCells = false) : OutAt n0 B rs xs W' := by
 obtain ⟨v, css, h1, h2, h3, h4⟩ := h
 exact ⟨v, css, h1.kept hg (fun e => by have := (hr B e.symm).1; omega), h2.keptO hg (fun r e => (hr r e).2), h3, fun j a b => (h4 j a b).keptO hg (fun r e => (hr r e).2)⟩
theorem OutAt.below {n0 B : Nat} {rs : List Rc} {xs : List (Nat × Nat)} {W W' : World} (hB : B < n0) (h : OutAt n0 B rs xs W) (hb : Below W.heap.size W W') : OutAt n0 B rs xs W' := h.keptO hB (qbo hb) (fun r e => by cases e)
theorem qkP {n0 B : Nat} {W0 : World} {rs : List Rc} {n : Nat} (hB : B < n0) (hn : n0 ≤ W0.heap.size) : OwnFrom n0 (CanI (n := n) n0 B W0 rs) := by
 rintro pre W W' row ⟨h1, h2⟩ hg hr
 exact ⟨h1.trans (KpX.grown (Nat.le_trans hn h1.size) hg (fun r e => .inl (hr r e).1)), h2.keptO hB hg hr⟩
theorem OutAt.snoc {n0 B : Nat} {rs : List Rc} {xs : List (Nat × Nat)} {x : Nat × Nat} {W W' : World} {v v' : Value} {css : List (List Value)} {cs : List Value} (hB : Boxed W B 24 v) (ho : OwnC 7 47 W n0 v css) (hl : css.length = xs.length) (hf : ∀ j (h1 : j < css.length) (h2 : j < xs.length), FrAt W n0 css[j] (runR rs xs[j]))
 (hc : FrAt W n0 cs (runR rs x)) (ho' : OwnC 7 47 W' n0 v' (css ++ [cs])) (hg : W.grownBy W' v.ownBlock) : OutAt n0 B rs (xs ++ [x]) (W'.setCell ⟨B, 0, none⟩ v') := by
 have hne : some B ≠ v.ownBlock := ho.ne_block hB (by decide)
 have hB' : Boxed W' B 24 v := hB.kept hg hne
 refine ⟨v', css ++ [cs], hB'.set v', OwnK.keptB ho' hB' (by decide) 0 v', by simp [hl], fun j a b => ?_⟩
 have hk : ∀ {cs : List Value} {r : Rc}, FrAt W n0 cs r → FrAt (W'.setCell ⟨B, 0, none⟩ v') n0 cs r := by
  intro cs r h
  have h' := h.grown ho hg
  obtain ⟨vo, vn, vu, vt, vr, e, h1, ⟨⟨vs, k1, k2, k3⟩, i1, i2, i3⟩⟩ := h'
  exact ⟨vo, vn, vu, vt, vr, e, h1.keptB hB' (by decide) 0 v', ⟨⟨vs, k1.keptB hB' (by decide) 0 v', k2, fun i a b => (k3 i a b).keptB hB' (by decide) 0 v'⟩, i1.keptB hB' (by decide) 0 v', i2.keptB hB' (by decide) 0 v', i3.keptB hB' (by decide) 0 v'⟩⟩
 by_cases hj : j < css.length
 ·rw [List.getElem_append_left hj, List.getElem_append_left (by omega)]
  exact hk (hf j hj (by omega))
 ·obtain rfl : j = css.length := by simp at a; omega
  have e1 : (css ++ [cs])[css.length]'a = cs := by simp
  have e2 : (xs ++ [x])[css.length]'b = x := by simp [hl]
  rw [e1, e2]
  exact hk hc
theorem SlK.cut {W : World} {g off n c : Nat} {css : List (List Value)} (hk : ∀ cs ∈ css, cs.length = 7) (hn : css.length = n) (hnc : n ≤ c) (hg : g < W.heap.size)
 (hc : ∀ j u, css.flatten[j]? = some u → W.cell? ⟨g, off + j, none⟩ = some u) (s e : Nat) (h1 : s < e) (h2 : e ≤ n) :
 SlK W (.slice (some ⟨g, off + s * 7, none⟩) (e - s) (c - s)) ((css.drop s).take (e - s)) := by
 have hl : ((css.drop s).take (e - s)).length = e - s := by rw [List.length_take, List.length_drop]; omega
 refine ⟨some ⟨g, off + s * 7, none⟩, c - s, by rw [hl], by rw [hl]; omega, (fun e => by cases e), .inr ⟨g, off + s * 7, rfl, hg, fun j u hj => ?_⟩⟩
 have hsplit : css.flatten = (css.take s).flatten ++ (((css.drop s).take (e - s)).flatten ++ ((css.drop s).drop (e - s)).flatten) := by
  rw [← List.flatten_append, ← List.flatten_append, List.take_append_drop, List.take_append_drop]
 have hts : (css.take s).flatten.length = s * 7 := by
  rw [qbd (k := 7) _ (fun x hx => hk x (List.mem_of_mem_take hx)), List.length_take]; congr 1; omega
 have := hc (s * 7 + j) u (by
  rw [hsplit, List.getElem?_append_right (by omega), hts, show s * 7 + j - s * 7 = j by omega]
  obtain ⟨hjl, _⟩ := List.getElem?_eq_some_iff.1 hj
  rw [List.getElem?_append_left hjl]; exact hj)
 rwa [← Nat.add_assoc] at this
theorem Rcs.cut {W : World} {css : List (List Value)} {rs : List Rc} (h : Rcs W css rs) (s m : Nat) : Rcs W ((css.drop s).take m) ((rs.drop s).take m) := by
 refine ⟨by simp [h.1], fun i h1 h2 => ?_⟩
 simp only [List.getElem_take, List.getElem_drop]
 rw [List.length_take, List.length_drop] at h1 h2
 exact h.2 _ (by omega) (by omega)
theorem qk1 {rs : List Rc} {s e : Nat} (h1 : s < e) (h2 : e ≤ rs.length) : ∃ y r, (rs.drop s).take (e - s) = y :: r ∧ y = rs[s] ∧ runR rs (s, e) = ⟨y.owner, leastM y.ttl r, y.data⟩ := by
 refine ⟨rs[s], (rs.drop (s + 1)).take (e - s - 1), ?_, rfl, ?_⟩
 ·rw [List.drop_eq_getElem_cons (by omega)]
  obtain ⟨m, hm⟩ : ∃ m, e - s = m + 1 := ⟨e - s - 1, by omega⟩
  rw [hm, List.take_succ_cons]
  rfl
 ·unfold runR
  rw [List.drop_eq_getElem_cons (show s < rs.length by omega)]
theorem qgp (x : Rc) : ∀ l : List Rc, (insS l x).length = l.length + 1
 | [] => rfl
 | y :: r => by
  unfold insS
  split
  ·simp [qgp x r]
  ·simp
theorem qi0 (l : List Rc) : (sortM l).length = l.length := by
 unfold sortM
 suffices ∀ (l a : List Rc), (l.foldl insS a).length = a.length + l.length by simpa using this l []
 intro l
 induction l with
 | nil => intro a; simp
 | cons x l ih => intro a; rw [List.foldl_cons, ih, qgp]; simp; omega
theorem qkm (l : List Rc) : ∀ z ∈ sortM l, z ∈ l := by
 unfold sortM
 suffices ∀ (l a : List Rc), ∀ z ∈ l.foldl insS a, z ∈ a ∨ z ∈ l by
  intro z hz
  rcases this l [] z hz with h | h
  ·cases h
  ·exact h
 intro l
 induction l with
 | nil => intro a z hz; exact .inl hz
 | cons x l ih =>
  intro a z hz
  rw [List.foldl_cons] at hz
  rcases ih _ z hz with h | h
  ·rcases qep a z h with rfl | h
   ·exact .inr (by simp)
   ·exact .inl h
  ·exact .inr (by simp [h])
theorem SlK.moved {W W' : World} {v : Value} {css : List (List Value)} (h : SlK W v css) (hs : W.heap.size ≤ W'.heap.size) (hb : ∀ b, v.ownBlock = some b → b < W.heap.size → W'.heap[b]? = W.heap[b]?) : SlK W' v css := by
 obtain ⟨a, c, rfl, h1, h2, h3⟩ := h
 refine ⟨a, c, rfl, h1, h2, ?_⟩
 rcases h3 with h3 | ⟨b, off, rfl, hlt, hc⟩
 ·exact .inl h3
 ·exact .inr ⟨b, off, rfl, by omega, fun j u hj => (World.cell?_of_block (a := ⟨b, off + j, none⟩) (hb b rfl hlt)).trans (hc j u hj)⟩
theorem qiE (N B : Nat) (w W0 : World) (a : Option Addr) (m c b1 b2 : Nat) (css : List (List Value)) (rs : List Rc) (hA : SlK W0 (.slice a m c) css) (hm : css.length = m) (hmb : m ≤ 1048576) (hR : Rcs w css rs) (hOK : ∀ r ∈ rs, RcOK r)
 (hw : Below w.heap.size w W0) (hB : w.heap.size ≤ B) (hN : N = W0.heap.size) (hb1 : b1 < N) (hb1B : b1 ≠ B) (hb2 : b2 < N) (hb2B : b2 ≠ B) (hown : ∀ b, (Value.slice a m c).ownBlock = some b → b ≠ B)
 (hc1 : Boxed W0 b1 24 (.slice a m c)) (hc2 : Boxed W0 b2 112 (.func (.func 57) #[] #[])) :
 ∃ g off, (0 < m → a = some ⟨g, off, none⟩ ∧ g < W0.heap.size ∧ g ≠ B ∧ ∀ j u, css.flatten[j]? = some u → W0.cell? ⟨g, off + j, none⟩ = some u) ∧
 SeqStopsK Fence.wide 7 Tryz.prog 81 #[.pointer (some ⟨b1, 0, none⟩), .pointer (some ⟨b2, 0, none⟩)] (segV g off c (n := m)) (KpX N B) (fun xs => xs.map (·.1) = segs rs) (fun _ => True) m W0 := by
 have hck : ∀ cs ∈ css, cs.length = 7 := fun cs hc => by
  obtain ⟨i, hi, rfl⟩ := List.mem_iff_getElem.1 hc
  exact (hR.2 i hi (by have := hR.1; omega)).len
 obtain ⟨g, off, hg⟩ : ∃ g off, 0 < m → a = some ⟨g, off, none⟩ ∧ g < W0.heap.size ∧ ∀ j u, css.flatten[j]? = some u → W0.cell? ⟨g, off + j, none⟩ = some u := by
  by_cases h0 : 0 < m
  ·obtain ⟨a', c', e, _, _, h3⟩ := id hA
   cases e
   rcases h3 with h3 | ⟨b, off, rfl, hlt, hc⟩
   ·subst h3; rw [← hm] at h0; exact absurd h0 (Nat.lt_irrefl 0)
   ·exact ⟨b, off, fun _ => ⟨rfl, hlt, hc⟩⟩
  ·exact ⟨0, 0, fun h => absurd h h0⟩
 refine ⟨g, off, fun h0 => ?_, ?_⟩
 ·obtain ⟨e, h1, h2⟩ := hg h0
  exact ⟨e, h1, hown g (by rw [e]; rfl), h2⟩
 have hnc : m ≤ c := by
  obtain ⟨a', c', e, h1, _⟩ := id hA
  cases e; omega
 have hrec : ∀ W, KpX N B W0 W → ∀ i (hi : i < css.length) (hi' : i < rs.length), RcAt W css[i] rs[i] := fun W hK i hi hi' =>
  (hR.2 i hi hi').below (hw.trans (hK.below hB (by rw [hN]; exact hw.size)))
 have H : RunW b1 b2 a g off m c css rs (KpX N B) (fun W => KpX N B W0 W) :=
  { c1 := fun W hK => Boxed.cell (t := 24) ((hK.block b1 hb1 hb1B).trans hc1)
    c2 := fun W hK => Boxed.cell (t := 112) ((hK.block b2 hb2 hb2B).trans hc2)
    ha := fun h0 => (hg h0).1
    el := fun W hK k hlt u0 u1 u2 u3 u4 u5 u6 e => by
     have h0 : 0 < m := by omega
     obtain ⟨ea, hgl, _⟩ := hg h0
     have hA2 : SlK W (.slice a m c) css := hA.moved hK.size (fun b e hb => hK.block b (by omega) (hown b e))
     obtain ⟨g', off', ea', _, hel⟩ := hA2.elem hck (by omega)
     rw [ea] at ea'
     cases ea'
     exact hel k hlt u0 u1 u2 u3 u4 u5 u6 e W (qL0)
    same := fun W hK i j hi hj hi' hj' => qkl css[i] css[j] rs[i] rs[j] W (hrec W hK i hi hi') (hrec W hK j hj hj') (hOK _ (List.getElem_mem _)) (hOK _ (List.getElem_mem _))
    below := fun W W' h hb => h.trans (KpX.of_below (by rw [hN]; exact h.size) hb)
    kp := fun W W' h k => h.trans k
    shape := fun k hk => by
     obtain ⟨x0, x3, x4, x5, x6, e⟩ := (hR.2 k hk (by have := hR.1; omega)).shape
     exact ⟨_, _, x0, x3, x4, x5, x6, e⟩ }
 intro l J Jx W hW hJ hJx hY h0
 refine (qjL 7 (by omega) l b1 b2 a g off m c hnc (by omega) css rs hm (by rw [← hR.1]; exact hm) (KpX N B) _ H J Jx (fun pre W W' h hb => hJ pre W W' none h (qbo hb) (fun _ e => by cases e)) hY W (KpX.of_below (by omega) hW) h0).mono ?_
 rintro e W' ⟨h1, h2 | ⟨pre, h2⟩⟩
 ·exact ⟨h1, .inl h2⟩
 ·exact ⟨h1, .inr ⟨pre, trivial, h2⟩⟩
end Go.Proofs.YtnpnfajgphpabaaGreat
namespace Go.Proofs.YtnpnfajgphpabaaGreat
set_option linter.unusedVariables false
set_option linter.unusedSimpArgs false
set_option maxRecDepth 100000
set_option maxHeartbeats 8000000
open Go.RowKit Go.Shelf
theorem FrAt.withTTL {W : World} {base : Nat} {x0 x1 x2 x3 x4 x5 x6 : Value} {y : Rc} (t : Nat) (h : FrAt W base [x0, x1, x2, x3, x4, x5, x6] y) : FrAt W base [x0, .int .u32 (t : Int), x2, x3, x4, x5, x6] ⟨y.owner, t, y.data⟩ := by
 obtain ⟨vo, vn, vu, vt, vr, e, h1, h2⟩ := h
 simp only [List.cons.injEq, and_true] at e
 obtain ⟨rfl, -, rfl, rfl, rfl, rfl, rfl⟩ := e
 exact ⟨_, _, _, _, _, rfl, h1, h2⟩
theorem KeepsOthers.of_below {W W' : World} (hb : Below W.heap.size W W') : KeepsOthers W W' := ⟨hb.size, fun k o hk _ => (hb.block k (Array.getElem?_eq_some_iff.1 hk).1).trans hk⟩
theorem KeepsOthers.grown_c {k : Nat} {T : TypeId} {W W' : World} {base : Nat} {v : Value} {xss : List (List Value)} (h : OwnC k T W base v xss) (hg : W.grownBy W' v.ownBlock) : KeepsOthers W W' :=
 ⟨hg.size, fun i o hi ho => (hg.block i (Array.getElem?_eq_some_iff.1 hi).1 (fun e => by
   obtain ⟨cs, h3⟩ := h.blk i e.symm
   rw [hi] at h3; cases h3; cases ho)).trans hi⟩
def qcA (w : World) (rs : List Rc) (e : Ending) (w' : World) : Prop :=
 ∃ v css, e = .returned v ∧ OwnC 7 47 w' w.heap.size v css ∧ css.length = (canonM rs).length ∧ (∀ j (h1 : j < css.length) (h2 : j < (canonM rs).length), FrAt w' w.heap.size css[j] (canonM rs)[j]) ∧ Below w.heap.size w w'
section
attribute [local go_sem] Oper.semAt_some
theorem qdr (v : Value) (css : List (List Value)) (rs : List Rc) (w : World) (hA : SlK w v css) (hR : Rcs w css rs) (hOK : ∀ r ∈ rs, RcOK r) (hl : css.length ≤ 1048576) :
 Calls Tryz.prog 24 #[v] w (qcA w rs) := by
 have hS := qiz w v css rs (w.alloc (.cells #[.slice none 0 0] 24)) ((Below.refl _ w).alloc (qN0) _) (hA.below ((Below.refl _ w).alloc (qN0) _)) hR hOK (by omega)
 have HL := qH0 (show rs.length ≤ 1048576 by have := hR.1; omega)
 have HOK := qH0 hOK
 obtain ⟨a, c, rfl, -⟩ := id hA
 obtain ⟨n0, hn0⟩ : ∃ n, css.length = n := ⟨_, rfl⟩
 rw [hn0] at hS ⊢
 clear hA hR hOK hl hn0
 refine (callsIn_wide (n := 8)).1 ?_
 refine callsIn_of_wp_marks Tryz.func24 rfl trivial ?_ rfl
 simp only [Tryz.ntmps24, List.size_toArray, List.length_cons, List.length_nil, Nat.reduceAdd, Nat.reduceSub, Array.replicate_succ, Array.replicate_zero, List.push_toArray, List.append_toArray, List.nil_append, List.cons_append]
 gi_wp2_with (refine ⟨trivial, ?_⟩; gi_at_call 55; refine (callsIn_wide.2 hS).mono ?_; rintro e w1 ⟨v1, css1, rfl, hA1, hR1, hb1, hB1⟩; obtain ⟨a1, c1, rfl, -⟩ := id hA1; obtain ⟨m, hm⟩ : ∃ m, css1.length = m := ⟨_, rfl⟩; rw [hm] at hA1 hb1 ⊢; have HA1 := qH0 hA1; have HR1 := qH0 hR1; have Hb1 := qH0 hb1; have HB1 := qH0 hB1; have HM := qH0 hm; clear hA1 hR1 hb1 hB1 hm hS)
 refine ⟨trivial, ?_⟩
 refine (callsIn_wide.2 (qjQ _ _ _ _)).mono ?_
 rintro e w2 ⟨rfl, rfl⟩
 gi_wp2
 obtain ⟨B, hB⟩ : ∃ B, w.heap.size = B := ⟨_, rfl⟩
 obtain ⟨W0, hW0⟩ : ∃ W0, (w1.alloc (.cells #[.slice a1 m c1] 24)).alloc (.cells #[.func (.func 57) #[] #[]] 112) = W0 := ⟨_, rfl⟩
 obtain ⟨N, hN⟩ : ∃ N, W0.heap.size = N := ⟨_, rfl⟩
 have hsz : N = w1.heap.size + 2 := by rw [← hN, ← hW0]; simp
 have hs1 : B + 1 ≤ w1.heap.size := by have := HB1.out.size; simp at this; omega
 have hBx : Boxed w1 B 24 (.slice none 0 0) := by
  have h := Boxed.new w 24 (.slice none 0 0)
  rw [hB] at h
  exact (HB1.out.block B (by simp; omega)).trans h
 have hw1 : Below w.heap.size w w1 := (((Below.refl _ w).alloc (qN0) _).trans (HB1.out.mono (by simp)))
 have hB01 : Below w1.heap.size w1 W0 := by rw [← hW0]; exact ((Below.refl _ w1).alloc (qN0) _).alloc (by simp) _
 have b1 : Boxed W0 w1.heap.size 24 (.slice a1 m c1) := by rw [← hW0]; exact (Boxed.new w1 _ _).alloc _
 have b2 : Boxed W0 (w1.heap.size + 1) 112 (.func (.func 57) #[] #[]) := by
  have := Boxed.new (w1.alloc (.cells #[.slice a1 m c1] 24)) 112 (.func (.func 57) #[] #[])
  rw [World.size_alloc] at this
  rw [← hW0]; exact this
 have hBx0 : Boxed W0 B 24 (.slice none 0 0) := (hB01.block B (by omega)).trans hBx
 have hmb : m ≤ 1048576 := by have := HM.out; have := HR1.out.1; have := HL.out; rw [qi0] at *; omega
 have hOKs : ∀ r ∈ sortM rs, RcOK r := fun r h => HOK.out r (qkm rs r h)
 have hw0 : Below w.heap.size w W0 := hw1.trans (hB01.mono (by omega))
 obtain ⟨g, off, hg, hseq⟩ := qiE N B w W0 a1 m c1 w1.heap.size (w1.heap.size + 1) css1 (sortM rs) (HA1.out.below hB01) HM.out hmb HR1.out hOKs hw0 (by omega) hN.symm (by omega) (by omega) (by omega) (by omega) (fun b e => by have := Hb1.out b e; simp at this; omega) b1 b2
 have hsl : m = (sortM rs).length := by rw [← HR1.out.1]; exact HM.out.symm
 have hnc : m ≤ c1 := by
  obtain ⟨a', c', e, h1, _⟩ := HA1.out
  have := HM.out
  cases e; omega
 have hck : ∀ cs ∈ css1, cs.length = 7 := fun cs hc => by
  obtain ⟨i, hi, rfl⟩ := List.mem_iff_getElem.1 hc
  exact (HR1.out.2 i hi (by have := HR1.out.1; omega)).len
 rw [hB, hW0]
 have HSEQ := qH0 hseq; have HG := qH0 hg; have HSZ := qH0 hsz; have HS1 := qH0 hs1; have HW0 := qH0 hw0; have HMB := qH0 hmb; have HOKS := qH0 hOKs; have HSL := qH0 hsl; have HNC := qH0 hnc; have HCK := qH0 hck; have HB := qH0 hB; have HN := qH0 hN
 clear hseq hg hsz hs1 hw0 hmb hOKs hsl hnc hck hBx hw1 hB01 b1 b2 HB1 Hb1 HA1 hW0 hB hN
 refine wpIn_rangeFunc_ownG rfl (by omega) (gf := 81) (lb := #[.pointer (some ⟨w1.heap.size, 0, none⟩), .pointer (some ⟨w1.heap.size + 1, 0, none⟩)]) rfl trivial (enters_of Tryz.func81 (by kernel_rfl) rfl)
  HSEQ.out (fun h k => h.trans k)
  (fun W l o o' hl h h1 h2 => ⟨rfl, rfl, rfl, by simp, fun k a b => World.putObj_heap_other (by have := HN.out; omega)⟩) (qL0) (fun _ => rfl)
  (CanI N B W0 (sortM rs)) (fun k pre W => False) (by rw [HN.out]; exact qkP (by have := HSZ.out; have := HS1.out; omega) (by rw [HN.out]; omega)) (fun _ => ownFrom_pure _ _)
  ⟨KpX.refl _ _ _, .slice none 0 0, [], hBx0, OwnK.nil _ _, rfl, fun j h => by simp at h⟩
  (fun x => { tmps := #[.slice a n0 c, undef, .slice none 0 0, .pointer (some ⟨B, 0, none⟩), .slice (some ⟨g, off + x.1.1 * 7, none⟩) (x.1.2 - x.1.1) (c1 - x.1.1), undef, .slice a n0 c, .slice a1 m c1, .func (.func 81) #[] #[.pointer (some ⟨w1.heap.size, 0, none⟩), .pointer (some ⟨w1.heap.size + 1, 0, none⟩)], .slice (some ⟨g, off + x.1.1 * 7, none⟩) (x.1.2 - x.1.1) (c1 - x.1.1), undef, undef, undef, undef, undef, undef, undef, undef, undef, undef, undef, undef], defers := [] }) ?assign ?body ?done ?stop
 case assign =>
  intro l x W K hK
  unfold segV
  gi_wp2
  exact hK
 case body =>
  rintro l pre ⟨⟨s, e⟩, hx1, hx2⟩ W ⟨hK, v, css, hb, ho, hl, hf⟩ hlt
  simp only at hx1 hx2
  have hs1 : s < css1.length := by rw [HM.out]; omega
  have hs2 : s < (sortM rs).length := by have := HSL.out; omega
  obtain ⟨ha, hgW, hgB, hcW⟩ := HG.out (by omega)
  subst ha
  have hNW : N ≤ W.heap.size := by rw [← HN.out]; exact hK.size
  have hgN : g < N := by rw [← HN.out]; exact hgW
  have hwW : Below w.heap.size w W := HW0.out.trans (hK.below (by have := HB.out; omega) (by have := HN.out; have := HW0.out.size; omega))
  have hRW : Rcs W css1 (sortM rs) := ⟨HR1.out.1, fun i h1 h2 => (HR1.out.2 i h1 h2).below hwW⟩
  have hpc := SlK.cut (W := W) HCK.out HM.out HNC.out (by omega) (fun j u hj => (World.cell?_of_block (a := ⟨g, off + j, none⟩) (hK.block g hgN hgB)).trans (hcW j u hj)) s e hx1 hx2
  have hpr := hRW.cut s (e - s)
  obtain ⟨y, r, hyr, hy, hrun⟩ := qk1 (rs := sortM rs) hx1 (by rw [← HSL.out]; exact hx2)
  have hyok : RcOK y := by rw [hy]; exact HOKS.out _ (List.getElem_mem _)
  have hrok : ∀ z ∈ y :: r, RcOK z := fun z hz => HOKS.out z (by rw [← hyr] at hz; exact List.mem_of_mem_drop (List.mem_of_mem_take hz))
  have hplen : ((css1.drop s).take (e - s)).length = e - s := by rw [List.length_take, List.length_drop]; have := HM.out; omega
  have hpck : ∀ cs ∈ (css1.drop s).take (e - s), cs.length = 7 := fun cs h => HCK.out cs (List.mem_of_mem_drop (List.mem_of_mem_take h))
  rw [hyr] at hpr
  generalize (css1.drop s).take (e - s) = pcs at hpc hpr hplen hpck
  obtain ⟨L, hL⟩ : ∃ L, e - s = L + 1 := ⟨e - s - 1, by omega⟩
  obtain ⟨off2, hoff⟩ : ∃ o, off + s * 7 = o := ⟨_, rfl⟩
  obtain ⟨c2, hc2⟩ : ∃ o, c1 - s = o := ⟨_, rfl⟩
  have hL20 : L + 1 ≤ 1048576 := by have := HMB.out; omega
  simp only [hL, hoff, hc2]
  rw [hL, hoff, hc2] at hpc
  rw [hL] at hplen
  obtain ⟨g', off', ea, hgl, hel⟩ := hpc.elem hpck (by omega)
  cases ea
  have hR0 : RcAt W (pcs[0]'(by omega)) y := hpr.2 0 (by omega) (by simp)
  have HFr := qH0 (qjh _ y W hR0 hyok)
  obtain ⟨⟨p0, q0, r0⟩, ⟨p3, q3, r3⟩, ⟨p4, q4, r4⟩, ⟨p5, q5, r5⟩, ⟨p6, q6, r6⟩, e0⟩ := hR0.shape
  simp only at e0
  have hcell := hel 0 (by omega) _ _ _ _ _ _ _ e0 W (qL0)
  simp only [Nat.zero_mul, Nat.add_zero] at hcell
  obtain ⟨g0, g1, g2, g3, g4, g5, g6⟩ := hcell
  rw [e0] at HFr
  have HLeast := qH0 (fun W' (hb : Below W.heap.size W W') => qjw _ pcs y r W' (hpc.below hb) (hpr.below hb) hrok (by omega))
  have HK := qH0 hK; have HBX := qH0 hb; have HOW := qH0 ho; have HLEN := qH0 hl; have HF := qH0 hf; have HRUN := qH0 hrun; have HPRE := qH0 hlt; have HNW := qH0 hNW
  have hLz : (0 : Int) < ((L + 1 : Nat) : Int) := by omega
  clear hK hb ho hl hf hrun hlt hs1 hs2 hgW hgB hcW hNW hgN hwW hRW hpc hpr hyr hy hyok hrok hplen hpck hL hoff hc2 hgl hel hR0 e0 hBx0 HSEQ HG HSZ HS1 HL HOK HR1 HM HOKS HSL HNC HCK HN
  gi_wp2_with (refine ⟨trivial, ?_⟩; gi_at_call 58; refine (CallsIn.inRound l (callsIn_wide.2 HFr.out)).mono ?_; rintro e w2 ⟨cs, rfl, hfr, hb2⟩; obtain ⟨⟨i0, j0, k0⟩, ⟨i3, j3, k3⟩, ⟨i4, j4, k4⟩, ⟨i5, j5, k5⟩, ⟨i6, j6, k6⟩, e1⟩ := hfr.rcAt.shape; simp only at e1; subst e1; have HFR := qH0 hfr; have HB2 := qH0 hb2; clear hfr hb2 HFr g0 g1 g2 g3 g4 g5 g6)
  obtain ⟨W3, hW3⟩ : ∃ W3, w2.alloc (.cells #[.slice i0 j0 k0, .int .u32 (y.ttl : Int), .int .i64 y.data.ty, .slice i3 j3 k3, .slice i4 j4 k4, .slice i5 j5 k5, .slice i6 j6 k6] 47) = W3 := ⟨_, rfl⟩
  have hx3 : W3.heap[w2.heap.size]? = some (.cells #[.slice i0 j0 k0, .int .u32 (y.ttl : Int), .int .i64 y.data.ty, .slice i3 j3 k3, .slice i4 j4 k4, .slice i5 j5 k5, .slice i6 j6 k6] 47) := by rw [← hW3]; exact knew _ _
  have HB3 : Hid (Below W.heap.size W W3) := by rw [← hW3]; exact qH0 (HB2.out.alloc HB2.out.size _)
  have HFR3 : Hid (FrAt W3 W.heap.size [.slice i0 j0 k0, .int .u32 (y.ttl : Int), .int .i64 y.data.ty, .slice i3 j3 k3, .slice i4 j4 k4, .slice i5 j5 k5, .slice i6 j6 k6] y) := by rw [← hW3]; exact qH0 (HFR.out.below ((Below.refl _ w2).alloc (qN0) _))
  rw [hW3]
  have HW2 := qH0 HB2.out.size
  obtain ⟨t, ht⟩ : ∃ t, leastM y.ttl r = t := ⟨_, rfl⟩
  have hle := HLeast.out W3 HB3.out
  rw [ht] at hle HRUN
  clear HB2 HFR hW3 HLeast
  refine ⟨trivial, ?_⟩
  refine (CallsIn.inRound l (callsIn_wide.2 hle)).mono ?_
  rintro e' w4 ⟨rfl, hb4⟩
  have hx4 := (hb4.block _ (qaa hx3)).trans hx3
  have hx5 : (w4.setCell ⟨w2.heap.size, 1, none⟩ (.int .u32 (t : Int))).heap[w2.heap.size]? = some (.cells #[.slice i0 j0 k0, .int .u32 (t : Int), .int .i64 y.data.ty, .slice i3 j3 k3, .slice i4 j4 k4, .slice i5 j5 k5, .slice i6 j6 k6] 47) := kset hx4 1 (.int .u32 (t : Int))
  have hf4 := qag hx4 1
  have hc41 := kcell hx4 1 _ rfl
  have HB5 := qH0 ((qB0 HB3.out hb4).setCell (p := ⟨w2.heap.size, 1, none⟩) HW2.out (.int .u32 (t : Int)))
  have HFR5 := qH0 ((((HFR3.out.below hb4).keepB hx4 1 (.int .u32 (t : Int))).withTTL t).weaken HNW.out)
  have hBx5 : Boxed (w4.setCell ⟨w2.heap.size, 1, none⟩ (.int .u32 (t : Int))) B 24 v := (HB5.out.block B HBX.out.lt).trans HBX.out
  have HOW5 := qH0 (OwnK.below HOW.out HB5.out)
  have hbc := Boxed.cell (t := 24) hBx5
  have y0 := kcell hx5 0 _ rfl; have y1 := kcell hx5 1 _ rfl; have y2 := kcell hx5 2 _ rfl; have y3 := kcell hx5 3 _ rfl; have y4 := kcell hx5 4 _ rfl; have y5 := kcell hx5 5 _ rfl; have y6 := kcell hx5 6 _ rfl
  have HBX5 := qH0 hBx5
  clear hx3 hx4 hb4 HB3 HFR3 hle hBx5 hx5
  have hlen : css.length + 1 ≤ 1048577 := by have h := HLEN.out; have h2 := HPRE.out; have h3 := HMB.out; rw [List.length_map] at h; omega
  have HLN := qH0 hlen
  have hnb : N ≤ (w4.setCell ⟨w2.heap.size, 1, none⟩ (.int .u32 (t : Int))).heap.size := Nat.le_trans HNW.out HB5.out.size
  have HNB := qH0 hnb
  clear hlen hnb
  gi_wp2_with (gi_at_builtin; refine qcQ (w4.setCell ⟨w2.heap.size, 1, none⟩ (.int .u32 (t : Int))) rfl (.tmp 17) (.tmp 19) qcT (by decide) rfl N v css rfl HOW5.out [.slice i0 j0 k0, .int .u32 (t : Int), .int .i64 y.data.ty, .slice i3 j3 k3, .slice i4 j4 k4, .slice i5 j5 k5, .slice i6 j6 k6] rfl (by intro u hu; simp only [List.mem_cons, List.not_mem_nil, or_false] at hu; rcases hu with rfl | rfl | rfl | rfl | rfl | rfl | rfl <;> rfl) 1 (by simp [Act.eval]) HNB.out (by have := HLN.out; unfold maxLen; omega) (by have := HLN.out; omega) ?_; intro v6 w6 hown6 hg6; obtain ⟨a9, c9, e9⟩ := OwnK.shape hown6; generalize List.length _ = ln at e9; subst e9; have hne6 : some B ≠ v.ownBlock := HOW5.out.ne_block HBX5.out (by decide); have hBx6 := HBX5.out.kept hg6 hne6; have c6 := hBx6.cell; have f6 := hBx6.frozen; have HBX6 := qH0 hBx6; have HOW6 := qH0 hown6; have HG6 := qH0 hg6; clear hne6 hBx6 hown6 hg6)
  have hK6 : KpX N B W (w6.setCell ⟨B, 0, none⟩ (.slice a9 ln c9)) :=
   ((KpX.of_below HNW.out HB5.out).trans (KpX.grown HNB.out HG6.out (fun r e => .inl (OwnK.base_le HOW5.out r e)))).trans (KpX.grown (Nat.le_trans HNB.out HG6.out.size) (qaf w6 B 0 _) (fun r e => by cases e; exact .inr rfl))
  have hko : KeepsOthers W (w6.setCell ⟨B, 0, none⟩ (.slice a9 ln c9)) :=
   ((KeepsOthers.of_below HB5.out).trans (KeepsOthers.grown_c HOW5.out HG6.out)).trans (KeepsOthers.setCell _ _ _)
  refine ⟨hko.from _, hK6, HK.out.trans hK6, ?_⟩
  rw [List.map_append]
  refine OutAt.snoc HBX5.out HOW5.out HLEN.out (fun j h1 h2 => (HF.out j h1 h2).below HB5.out) ?_ HOW6.out HG6.out
  show FrAt _ N _ (runR (sortM rs) (s, e))
  rw [HRUN.out]
  exact HFR5.out
 case done =>
  rintro D zs W hD hzs ⟨hK, v, css, hb, ho, hl, hf⟩ hD0
  have hc := hb.cell
  rw [hzs] at hl hf
  have hcan : canonM rs = (segs (sortM rs)).map (runR (sortM rs)) := by rw [qky, qjl]
  have HCAN := qH0 hcan; have HL2 := qH0 hl; have HF2 := qH0 hf; have HK2 := qH0 hK; have HO2 := qH0 ho; have HZS := qH0 hzs
  have HD := qH0 hD
  clear hcan hl hf hK ho hzs hD
  gi_wp2
  refine ⟨by simp, .inl ⟨_, _, rfl, run_takeDeferred hD0, ?_⟩⟩
  refine ⟨_, results_tmp rfl _ _ _, ?_⟩
  have hr : ∀ r, some D = some r → ∃ o : Obj, W.heap[r]? = some o ∧ o.isCells = false := fun r e => by cases e; exact ⟨_, hD0, rfl⟩
  have hDN : w.heap.size ≤ D := by have := HD.out; have := HW0.out.size; omega
  have hwN : w.heap.size ≤ N := by have := HN.out; have := HW0.out.size; omega
  refine ⟨v, css, rfl, (HO2.out.keptO (grownBy_putObj' W D _) hr).weaken hwN, by rw [HL2.out, HCAN.out, List.length_map], fun j h1 h2 => ?_, ?_⟩
  ·have hj : j < (segs (sortM rs)).length := by rw [← HL2.out]; exact h1
   have e : (canonM rs)[j]'h2 = runR (sortM rs) (segs (sortM rs))[j] := by
    simp only [HCAN.out, List.getElem_map]
   rw [e]
   exact ((HF2.out j h1 hj).keptO (grownBy_putObj' W D _) hr).weaken hwN
  ·exact qal (HW0.out.trans (HK2.out.below (by have := HB.out; omega) hwN)) hDN (qN0)
 case stop =>
  rintro D c3 pre W hD hp hF hK
  exact hF.elim
end
end Go.Proofs.YtnpnfajgphpabaaGreat
namespace Go.Proofs.YtnpnfajgphpabaaGreat
set_option linter.unusedVariables false
set_option linter.unusedSimpArgs false
set_option maxRecDepth 20000
open Go.RowKit Go.Shelf
def SetR (W : World) (cs : List Value) (s : St) : Prop :=
 ∃ (x0 x3 : Option Addr × Nat × Nat) (ds : List (List Value)), cs = [.slice x0.1 x0.2.1 x0.2.2, .int .i64 s.ty, .int .u32 (s.ttl : Int), .slice x3.1 x3.2.1 x3.2.2] ∧ NmAt W (.slice x0.1 x0.2.1 x0.2.2) s.owner ∧
  SlK W (.slice x3.1 x3.2.1 x3.2.2) ds ∧ ds.length = s.data.length ∧ ∀ j (h1 : j < ds.length) (h2 : j < s.data.length), ds[j].length = 5 ∧ DatAt W (.agg ds[j].toArray) s.data[j]
theorem SetR.below {W W' : World} {cs : List Value} {s : St} (h : SetR W cs s) (hb : Below W.heap.size W W') : SetR W' cs s := by
 obtain ⟨x0, x3, ds, e, h1, h2, h3, h4⟩ := h
 exact ⟨x0, x3, ds, e, h1.below hb, h2.below hb, h3, fun j a b => ⟨(h4 j a b).1, (h4 j a b).2.below hb⟩⟩
def RowS (W : World) (v : Value) (l : List St) : Prop := ∃ csd, SlK W v csd ∧ csd.length = l.length ∧ ∀ j (h1 : j < csd.length) (h2 : j < l.length), SetR W csd[j] l[j]
theorem qfz (a : Option Addr) (n c : Nat) (w : World) :
 Calls Tryz.prog 76 #[.slice a n c] w fun e w' => e = .returned (.func (.func 96) #[] #[.pointer (some ⟨w.heap.size, 0, none⟩)]) ∧ w' = w.alloc (.cells #[.slice a n c] 24) := by
 go_enter Tryz.func76, Tryz.ntmps76
 go_wp2
 go_ret
 exact ⟨rfl, rfl⟩
def setC (vo : Nat → Option Addr × Nat × Nat) (rs : List Rc) {n : Nat} (x : SegD n) : List Value :=
 [.slice (vo x.1.1.1).1 (vo x.1.1.1).2.1 (vo x.1.1.1).2.2, .int .i64 (rs.getD x.1.1.1 rcZ).data.ty, .int .u32 (ttlS rs x.1.1.1 x.1.1.2 : Int), .slice x.1.2.1 (x.1.1.2 - x.1.1.1) x.1.2.2]
def SOut (N B : Nat) (css : List (List Value)) (vo : Nat → Option Addr × Nat × Nat) (rs : List Rc) {n : Nat} (pre : List (SegD n)) (W : World) : Prop :=
 ∃ v, Boxed W B 58 v ∧ OwnC 4 67 W N v (pre.map fun x => setC vo rs x) ∧ ∀ x ∈ pre, DatO N css x W
def SetI (N B : Nat) (W0 : World) (css : List (List Value)) (vo : Nat → Option Addr × Nat × Nat) (rs : List Rc) {n : Nat} (pre : List (SegD n)) (W : World) : Prop := KpX N B W0 W ∧ SOut N B css vo rs pre W
theorem DatO.keptO {N : Nat} {css : List (List Value)} {n : Nat} {x : SegD n} {W W' : World} {row : Option Nat} (h : DatO N css x W) (hg : W.grownBy W' row) (hr : ∀ r, row = some r → ∃ o : Obj, W.heap[r]? = some o ∧ o.isCells = false) : DatO N css x W' := OwnC.keptO h hg hr
theorem qkN {N B : Nat} {W0 : World} {css : List (List Value)} {vo : Nat → Option Addr × Nat × Nat} {rs : List Rc} {n : Nat} (hB : B < N) (hn : N ≤ W0.heap.size) : OwnFrom N (SetI (n := n) N B W0 css vo rs) := by
 rintro pre W W' row ⟨h1, v, h2, h3, h4⟩ hg hr
 exact ⟨h1.trans (KpX.grown (Nat.le_trans hn h1.size) hg (fun r e => .inl (hr r e).1)), v, h2.kept hg (fun e => by have := (hr B e.symm).1; omega), OwnC.keptO h3 hg (fun r e => (hr r e).2), fun x hx => (h4 x hx).keptO hg (fun r e => (hr r e).2)⟩
theorem SOut.below {N B : Nat} {css : List (List Value)} {vo : Nat → Option Addr × Nat × Nat} {rs : List Rc} {n : Nat} {pre : List (SegD n)} {W W' : World} (h : SOut N B css vo rs pre W) (hb : Below W.heap.size W W') : SOut N B css vo rs pre W' := by
 obtain ⟨v, h2, h3, h4⟩ := h
 exact ⟨v, (hb.block B h2.lt).trans h2, OwnK.below h3 hb, fun x hx => OwnK.below (h4 x hx) hb⟩
theorem SOut.snoc {N B : Nat} {css : List (List Value)} {vo : Nat → Option Addr × Nat × Nat} {rs : List Rc} {n : Nat} {pre : List (SegD n)} {x : SegD n} {W W' : World} {v v' : Value} (h2 : Boxed W B 58 v) (h3 : OwnC 4 67 W N v (pre.map fun x => setC vo rs x)) (h4 : ∀ x ∈ pre, DatO N css x W) (hx : DatO N css x W)
 (ho : OwnC 4 67 W' N v' ((pre.map fun x => setC vo rs x) ++ [setC vo rs x])) (hg : W.grownBy W' v.ownBlock) : SOut N B css vo rs (pre ++ [x]) (W'.setCell ⟨B, 0, none⟩ v') := by
 have hne : some B ≠ v.ownBlock := OwnK.ne_block h3 h2 (by decide)
 have hB' : Boxed W' B 58 v := h2.kept hg hne
 have hk : ∀ {y : SegD n}, DatO N css y W → DatO N css y (W'.setCell ⟨B, 0, none⟩ v') := fun {y} h => OwnK.keptB (OwnK.kept2 h h3 (by decide) hg) hB' (by decide) 0 v'
 refine ⟨v', hB'.set v', OwnK.keptB (by rw [List.map_append]; exact ho) hB' (by decide) 0 v', fun y hy => ?_⟩
 rcases List.mem_append.1 hy with hy | hy
 ·exact hk (h4 y hy)
 ·rw [List.mem_singleton] at hy; subst hy; exact hk hx
theorem qh1 {W : World} {N m : Nat} {css : List (List Value)} {vo vn vu vt vr : Nat → Option Addr × Nat × Nat} {rs : List Rc} (hm : css.length = m) (hR : Rcs W css rs)
 (hc : ∀ k (hk : k < css.length) (hr : k < rs.length), css[k] = [.slice (vo k).1 (vo k).2.1 (vo k).2.2, .int .u32 (rs[k].ttl : Int), .int .i64 rs[k].data.ty, .slice (vn k).1 (vn k).2.1 (vn k).2.2, .slice (vu k).1 (vu k).2.1 (vu k).2.2, .slice (vt k).1 (vt k).2.1 (vt k).2.2, .slice (vr k).1 (vr k).2.1 (vr k).2.2])
 (x : SegD m) (hd : DatO N css x W) : SetR W (setC vo rs x) (setR rs x.1.1) := by
 obtain ⟨⟨⟨s, e⟩, ad, cd⟩, hx1, hx2⟩ := x
 simp only at hx1 hx2
 have hl := hR.1
 have hs : s < rs.length := by omega
 have hsc : s < css.length := by omega
 obtain ⟨j, rfl⟩ : ∃ j, e = s + j + 1 := ⟨e - s - 1, by omega⟩
 have e1 : setR rs (s, s + j + 1) = stR rs[s] ((rs.drop (s + 1)).take j) := by
  unfold setR
  simp only [List.drop_eq_getElem_cons hs]
  rw [show s + j + 1 - s - 1 = j by omega]
 have e2 : ttlS rs s (s + j + 1) = leastM rs[s].ttl ((rs.drop (s + 1)).take j) := by
  unfold ttlS
  rw [qch hs, List.drop_eq_getElem_cons hs, show s + j + 1 - s = j + 1 by omega, List.take_succ_cons, qcl]
 show SetR W (setC vo rs ⟨((s, s + j + 1), ad, cd), hx1, hx2⟩) (setR rs (s, s + j + 1))
 rw [e1]
 unfold setC
 simp only
 rw [qch hs, e2]
 have hk5 : ∀ cs ∈ dcs css s (s + j + 1), cs.length = 5 := fun cs h => by
  obtain ⟨c7, h7, rfl⟩ := List.mem_map.1 h
  rw [List.length_drop, hR.ck c7 (List.mem_of_mem_drop (List.mem_of_mem_take h7))]
 have hdl : (dcs css s (s + j + 1)).length = j + 1 := by rw [qe3 (by omega)]; omega
 have h0 := hR.2 s hsc hs
 rw [hc s hsc hs] at h0
 obtain ⟨_, _, _, _, _, e5, n1, _⟩ := h0
 simp only [List.cons.injEq, and_true] at e5
 refine ⟨vo s, (ad, s + j + 1 - s, cd), dcs css s (s + j + 1), rfl, ?_, SlK.of_own hd hk5, ?_, fun i h1 h2 => ⟨hk5 _ (List.getElem_mem h1), ?_⟩⟩
 ·rw [e5.1]; exact n1
 ·rw [hdl]; simp [stR]; omega
 ·have hi : i < j + 1 := by rw [hdl] at h1; exact h1
  have hc1 : s + i < css.length := by omega
  have hc2 : s + i < rs.length := by omega
  have ed : (dcs css s (s + j + 1))[i] = css[s + i].drop 2 := by
   simp only [dcs, List.getElem_map, List.getElem_take, List.getElem_drop]
  have er : (stR rs[s] ((rs.drop (s + 1)).take j)).data[i] = rs[s + i].data := by
   cases i with
   | zero => rfl
   | succ i =>
    simp only [stR, List.getElem_cons_succ, List.getElem_map, List.getElem_take, List.getElem_drop]
    congr 2; omega
  rw [ed, er]
  have hi0 := hR.2 (s + i) hc1 hc2
  obtain ⟨wo, wn, wu, wt, wr, e6, _, d1⟩ := hi0
  rw [e6]
  exact d1
theorem KpX.grownX {N B : Nat} {W W' : World} (hN : N = W.heap.size) (h : KpX N B W W') : W.grownBy W' (some B) := ⟨h.os, h.tape, h.output, h.size, fun k hk hne => h.block k (by omega) (fun e => hne (by rw [e]))⟩
theorem FrAt.keptX {W W' : World} {base B : Nat} {cs : List Value} {r : Rc} (h : FrAt W base cs r) (hB : B < base) (hg : W.grownBy W' (some B)) : FrAt W' base cs r := by
 obtain ⟨vo, vn, vu, vt, vr, e, h1, ⟨⟨vs, k1, k2, k3⟩, i1, i2, i3⟩⟩ := h
 have hk : ∀ {α : Type} {T : TypeId} {enc : α → Value} {v : Value} {xs : List α}, OwnG T enc W base v xs → OwnG T enc W' base v xs := fun {α T enc v xs} o => o.kept hg (.inr fun e => by have := o.base_le B e; omega)
 exact ⟨vo, vn, vu, vt, vr, e, hk h1, ⟨⟨vs, hk k1, k2, fun i a b => hk (k3 i a b)⟩, hk i1, hk i2, hk i3⟩⟩
abbrev Sl5 := (Option Addr × Nat × Nat) × (Option Addr × Nat × Nat) × (Option Addr × Nat × Nat) × (Option Addr × Nat × Nat) × (Option Addr × Nat × Nat)
theorem qeY {W : World} {css : List (List Value)} {rs : List Rc} (hR : Rcs W css rs) : ∃ vo vn vu vt vr : Nat → Option Addr × Nat × Nat, ∀ k (hk : k < css.length) (hr : k < rs.length), css[k] = [.slice (vo k).1 (vo k).2.1 (vo k).2.2, .int .u32 (rs[k].ttl : Int), .int .i64 rs[k].data.ty, .slice (vn k).1 (vn k).2.1 (vn k).2.2, .slice (vu k).1 (vu k).2.1 (vu k).2.2, .slice (vt k).1 (vt k).2.1 (vt k).2.2, .slice (vr k).1 (vr k).2.1 (vr k).2.2] := by
 obtain ⟨F, hF⟩ := Go.Deep.choose_lt (n := css.length) (α := Sl5) (p := fun k q => ∀ (hk : k < css.length) (hr : k < rs.length), css[k] = [.slice q.1.1 q.1.2.1 q.1.2.2, .int .u32 (rs[k].ttl : Int), .int .i64 rs[k].data.ty, .slice q.2.1.1 q.2.1.2.1 q.2.1.2.2, .slice q.2.2.1.1 q.2.2.1.2.1 q.2.2.1.2.2, .slice q.2.2.2.1.1 q.2.2.2.1.2.1 q.2.2.2.1.2.2, .slice q.2.2.2.2.1 q.2.2.2.2.2.1 q.2.2.2.2.2.2]) (fun k hk => by
  obtain ⟨x0, x3, x4, x5, x6, e⟩ := (hR.2 k hk (by have := hR.1; omega)).shape
  exact ⟨(x0, x3, x4, x5, x6), fun _ _ => e⟩)
 exact ⟨fun k => (F k).1, fun k => (F k).2.1, fun k => (F k).2.2.1, fun k => (F k).2.2.2.1, fun k => (F k).2.2.2.2, fun k hk hr => hF k hk hk hr⟩
theorem qeW (N B : Nat) (W0 : World) (a : Option Addr) (m c b1 : Nat) (css : List (List Value)) (rs : List Rc) (vo vn vu vt vr : Nat → Option Addr × Nat × Nat) (hA : SlK W0 (.slice a m c) css) (hm : css.length = m) (hmb : m ≤ 1048576) (hst : ∀ W, KpX N B W0 W → Rcs W css rs) (hOK : ∀ r ∈ rs, RcOK r)
 (hN : N = W0.heap.size) (hb1 : b1 < N) (hb1B : b1 ≠ B) (hown : ∀ b, (Value.slice a m c).ownBlock = some b → b ≠ B)
 (hc1 : Boxed W0 b1 24 (.slice a m c))
 (hc : ∀ k (hk : k < css.length) (hr : k < rs.length), css[k] = [.slice (vo k).1 (vo k).2.1 (vo k).2.2, .int .u32 (rs[k].ttl : Int), .int .i64 rs[k].data.ty, .slice (vn k).1 (vn k).2.1 (vn k).2.2, .slice (vu k).1 (vu k).2.1 (vu k).2.2, .slice (vt k).1 (vt k).2.1 (vt k).2.2, .slice (vr k).1 (vr k).2.1 (vr k).2.2]) :
 qfw Fence.wide 7 Tryz.prog 96 #[.pointer (some ⟨b1, 0, none⟩)] (setV (fun k => .slice (vo k).1 (vo k).2.1 (vo k).2.2) rs (n := m)) (DatO N css) (KpX N B) (fun xs => xs.map (·.1.1) = segsS rs) (fun xs => xs.map (·.1.1) <+: segsS rs) m W0 := by
 have hR := hst W0 (KpX.refl _ _ _)
 have hck := hR.ck
 obtain ⟨g, off, hg⟩ : ∃ g off, 0 < m → a = some ⟨g, off, none⟩ ∧ g < W0.heap.size := by
  by_cases h0 : 0 < m
  ·obtain ⟨g, off, e, hl, _⟩ := hA.elem hck (by omega)
   exact ⟨g, off, fun _ => ⟨e, hl⟩⟩
  ·exact ⟨0, 0, fun h => absurd h h0⟩
 have hnc : m ≤ c := by
  obtain ⟨a', c', e, h1, _⟩ := id hA
  cases e; omega
 have H : SetW b1 a g off m c css rs vo vn vu vt vr (KpX N B) (fun W => KpX N B W0 W) :=
  { c1 := fun W hK => Boxed.cell (t := 24) ((hK.block b1 hb1 hb1B).trans hc1)
    ha := fun h0 => (hg h0).1
    el := fun W hK k hlt u0 u1 u2 u3 u4 u5 u6 e => by
     have h0 : 0 < m := by omega
     obtain ⟨ea, hgl⟩ := hg h0
     have hA2 : SlK W (.slice a m c) css := by
      obtain ⟨a', c', e1, i1, i2, i3⟩ := id hA
      cases e1
      refine ⟨_, _, by rw [hm], by rw [hm]; exact hnc, i2, ?_⟩
      rcases i3 with i3 | ⟨b, o2, e2, hlt2, hcell⟩
      ·exact .inl i3
      ·refine .inr ⟨b, o2, e2, Nat.lt_of_lt_of_le hlt2 hK.size, fun j u hj => (World.cell?_of_block (a := ⟨b, o2 + j, none⟩) (hK.block b (by omega) (hown b (by rw [e2]; rfl)))).trans (hcell j u hj)⟩
     obtain ⟨g', off', ea', _, hel⟩ := hA2.elem hck (by omega)
     rw [ea] at ea'
     cases ea'
     exact hel k hlt u0 u1 u2 u3 u4 u5 u6 e W (qL0)
    bel := fun W hK i j hi hj hj' tt a1 n1 c1 => by
     have hRW := hst W hK
     have hic : i < css.length := by have := hR.1; omega
     have h1 := hRW.2 i hic hi
     rw [hc i hic hi] at h1
     obtain ⟨_, _, _, _, _, e5, n1', _⟩ := h1
     simp only [List.cons.injEq, and_true] at e5
     exact qgL _ _ _ a1 n1 c1 tt rs[i].owner rs[i].data.ty css[j] rs[j] W (by rw [e5.1]; exact n1') (hOK _ (List.getElem_mem hi)).1 (hRW.2 j hj hj') (hOK _ (List.getElem_mem hj'))
    below := fun W W' h hb => h.trans (KpX.of_below (by rw [hN]; exact h.size) hb)
    kp := fun W W' h k => h.trans k
    cell := hc }
 intro l J Jx W hW hJ hJx hY h0
 refine (qjO 7 (by omega) l b1 a g off m c hnc hmb css rs hm (by rw [← hR.1]; exact hm) vo vn vu vt vr N (KpX N B) _ H J Jx (fun pre W W' h hb => hJ pre W W' none h (qbo hb) (fun _ e => by cases e)) (fun W h => by rw [hN]; exact h.size) hY W (KpX.of_below (by omega) hW) h0).mono ?_
 rintro e W' ⟨h1, h2 | ⟨pre, h3, h2⟩⟩
 ·exact ⟨h1, .inl h2⟩
 ·exact ⟨h1, .inr ⟨pre, h3, h2⟩⟩
theorem qkd : ElemK 4 67 58 64 := ⟨Tryz.underlying58, _, _, rfl, rfl, rfl, rfl, rfl⟩
end Go.Proofs.YtnpnfajgphpabaaGreat
namespace Go.Proofs.YtnpnfajgphpabaaGreat
set_option linter.unusedVariables false
set_option linter.unusedSimpArgs false
set_option maxRecDepth 20000
open Go.RowKit Go.Shelf
theorem qgo {x : Rc} (hx : RcOK x) : ∀ (l : List Rc), (∀ y ∈ l, RcOK y) → ∀ y ∈ insR l x, RcOK y
 | [], _, y, hy => by
  rw [insR, List.mem_singleton] at hy; subst hy; exact hx
 | z :: r, h, y, hy => by
  have hz := h z (by simp)
  rw [insR] at hy
  split at hy
  ·rcases List.mem_cons.1 hy with rfl | hy
   ·exact hz
   ·exact qgo hx r (fun a ha => h a (by simp [ha])) y hy
  ·split at hy
   ·rcases List.mem_cons.1 hy with rfl | hy
    ·exact ⟨hz.1, by show minT z.ttl x.ttl < _; unfold minT; split; exact hx.2.1; exact hz.2.1, hz.2.2⟩
    ·exact h y (by simp [hy])
   ·rcases List.mem_cons.1 hy with rfl | hy
    ·exact hx
    ·exact h y hy
theorem qbv (l : List Rc) : (∀ r ∈ l, RcOK r) → ∀ y ∈ canonM l, RcOK y :=
 qaV (P := fun l => (∀ r ∈ l, RcOK r) → ∀ y ∈ canonM l, RcOK y) (fun _ y hy => by cases hy) (fun l x ih h y hy => by
  rw [qaW] at hy
  exact qgo (h x (by simp)) _ (ih fun r hr => h r (by simp [hr])) y hy) l
section
attribute [local go_sem] Oper.semAt_some
end
end Go.Proofs.YtnpnfajgphpabaaGreat
namespace Go.Proofs.YtnpnfajgphpabaaGreat
set_option linter.unusedVariables false
set_option linter.unusedSimpArgs false
set_option maxRecDepth 20000
set_option maxHeartbeats 4000000
open Go.RowKit Go.Shelf
def natV (k : Nat) : Value := .int .i64 (k : Int)
theorem qko {l : List Nat} {x : Nat} {k : Nat} (h : k < l.length) (hx : ¬ (x : Int) = (l[k] : Int)) (h0 : ¬ x ∈ l.take k) : ¬ x ∈ l.take (k + 1) := by
 rw [List.take_succ_eq_append_getElem h, List.mem_append, List.mem_singleton]
 rintro (h1 | h1)
 ·exact h0 h1
 ·exact hx (by rw [h1])
theorem qi3 (v : Value) (l : List Nat) (x : Nat) (w : World) (hA : SlAt w v (l.map natV)) (hl : l.length ≤ 1048576) :
 Calls Tryz.prog 115 #[v, .int .i64 (x : Int)] w fun e w' => (∃ j : Int, e = .returned (.int .i64 j) ∧ (decide (0 ≤ j) = l.contains x)) ∧ w' = w := by
 obtain ⟨a, c, rfl, hx⟩ := id hA
 obtain ⟨n, hn⟩ : ∃ n, (l.map natV).length = n := ⟨_, rfl⟩
 have hn2 : l.length = n := by rw [← hn, List.length_map]
 rw [hn] at hA ⊢
 have hnl : n ≤ 1048576 := by omega
 have HA := qH0 hA; have HN := qH0 hn2
 clear hx hn hA hl hn2
 go_enter Tryz.func115, Tryz.ntmps115
 go_wp2
 go_loop [8] (fun vi => ∃ k : Nat, vi = .int .i64 k ∧ k ≤ n ∧ Hid (¬ x ∈ l.take k)) (fun vi => n - (intOf vi).toNat)
 case atStart => exact ⟨0, rfl, Nat.zero_le _, qH0 (by simp)⟩
 case round =>
  obtain ⟨k, rfl, hk, HX⟩ := hrel
  by_cases hlt : k < n
  ·have hltz : (k : Int) < (n : Int) := by omega
   have hk2 : k < l.length := by have := HN.out; omega
   obtain ⟨b, off, rfl, hb, hcell⟩ := HA.out.cell (Below.refl _ w) k (by rw [List.length_map]; exact hk2)
   rw [List.getElem_map] at hcell
   unfold natV at hcell
   obtain ⟨y, hy⟩ : ∃ y, l[k]'hk2 = y := ⟨_, rfl⟩
   have HY := qH0 hy
   rw [hy] at hcell
   clear hy
   by_cases he : (x : Int) = (y : Int)
   ·have hbb : ((x : Int) == (y : Int)) = true := by simpa using he
    have HE := qH0 he
    clear he
    go_wp2
    go_ret
    refine ⟨⟨k, rfl, ?_⟩, rfl⟩
    have e1 : x = y := by have := HE.out; omega
    have e2 : x ∈ l := by rw [e1, ← HY.out]; exact List.getElem_mem _
    simpa using e2
   ·have hbb : ((x : Int) == (y : Int)) = false := by simpa using he
    have HT := qH0 (qko hk2 (by rw [HY.out]; exact he) HX.out)
    clear he
    go_wp2
    go_round
    case measure => simp [intOf]; omega
    case rel => exact ⟨k + 1, by go_num, by omega, HT⟩
  ·obtain rfl : k = n := by omega
   have h := HX.out
   rw [List.take_of_length_le (by have := HN.out; omega)] at h
   have HF := qH0 h
   clear h
   go_wp2
   go_ret
   refine ⟨⟨-1, rfl, ?_⟩, rfl⟩
   simpa using HF.out
theorem qgZ (v : Value) (l : List Nat) (x : Nat) (w : World) (hA : SlAt w v (l.map natV)) (hl : l.length ≤ 1048576) :
 Calls Tryz.prog 100 #[v, .int .i64 (x : Int)] w fun e w' => e = .returned (.bool (l.contains x)) ∧ w' = w := by
 have hc := qi3 v l x w hA hl
 obtain ⟨q, hq⟩ : ∃ q, l.contains x = q := ⟨_, rfl⟩
 rw [hq] at hc ⊢
 clear hA hl hq
 go_enter Tryz.func100, Tryz.ntmps100
 go_wp2_with fail
 refine hc.mono ?_
 rintro e w' ⟨⟨j, rfl, hj⟩, rfl⟩
 have HJ := qH0 hj
 clear hj hc
 go_wp2
 go_ret
 exact ⟨by rw [HJ.out]; rfl, rfl⟩
end Go.Proofs.YtnpnfajgphpabaaGreat
