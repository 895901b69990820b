/-
  check.newView.
-/
import Derived.Test.YtckammgnmgkieaaMQ06
import Derived.Test.YtckammgnmgkieaaMQ13
import Derived.Test.YtckammgnmgkieaaMQ17
import Derived.Deep.RegionHeld3
import Derived.Deep.CutRange
import Derived.Test.YtckammgnmgkieaaMQ27
import Derived.Deep.RegionLaw
import Derived.Deep.CutBlock
import Derived.Deep.DeepCutAuto
import Derived.Test.YtckammgnmgkieaaMQ32
import Derived.Deep.AppendLies
namespace Go.Proofs.Ytckammgnmgkieaa
set_option maxRecDepth 20000
open Go.RowKit Go.Shelf
set_option maxRecDepth 20000
set_option linter.unusedVariables false
set_option linter.unusedSimpArgs false
/-- A slice as it lies in a cell. -/
def slV (x : Option Addr × Nat × Nat) : Value := .slice x.1 x.2.1 x.2.2
theorem kg_far {a b c : World} {r q : Option Nat} (h : a.grownBy b r) (g : b.grownBy c q) (hq : ∀ k, q = some k → a.heap.size ≤ k ∨ r = some k) : a.grownBy c r := by
  refine ⟨g.os.trans h.os, g.tape.trans h.tape, g.output.trans h.output, Nat.le_trans h.size g.size, fun i hi hne => (g.block i (Nat.lt_of_lt_of_le hi h.size) (fun e => ?_)).trans (h.block i hi hne)⟩
  rcases hq i e.symm with h1 | h1
  · omega
  · exact hne h1.symm
theorem kg_belowA {a b c : World} {r : Option Nat} (h : a.grownBy b r) (g : Below b.heap.size b c) : a.grownBy c r :=
  ⟨g.os.trans h.os, g.tape.trans h.tape, g.output.trans h.output, Nat.le_trans h.size g.size, fun i hi hne => (g.block i (Nat.lt_of_lt_of_le hi h.size)).trans (h.block i hi hne)⟩
theorem kg_to {n : Nat} {a b : World} {B : Nat} (h : a.grownBy b (some B)) (hB : n ≤ B) (hn : n ≤ a.heap.size) : Below n a b := (Below.refl n a).grown h hn (fun k e => by cases e; exact hB)
/-- The cells that a row's iterator reads are those of its sets. -/
theorem RowS.at {W : World} {a : Option Addr} {b off n c : Nat} {l : List St} {G : Fin l.length → SV} (h : RowS W (.slice a n c) l) (ha : l.length = 0 ∨ a = some ⟨b, off, none⟩) (hG : EAt W b off G) (x : Fin l.length) :
    SetR W [.slice (G x).1.1 (G x).1.2.1 (G x).1.2.2, .int .i64 (G x).2.1, .int .u32 (G x).2.2.1, .slice (G x).2.2.2.1 (G x).2.2.2.2.1 (G x).2.2.2.2.2] l[x] := by
  have hx := x.isLt
  obtain ⟨b', off', e, hb, hel⟩ := h.elem (by omega)
  have ha' : a = some ⟨b, off, none⟩ := by
    rcases ha with h0 | h0
    · omega
    · exact h0
  rw [ha'] at e
  injection e with e
  injection e with e1 e2 _
  subst e1; subst e2
  obtain ⟨x0, x3, hs, hc⟩ := hel x.val x.isLt
  obtain ⟨c0, c1, c2, c3⟩ := hc W (Below.refl _ _)
  obtain ⟨g0, g1, g2, g3⟩ := hG x
  rw [c0] at g0; rw [c1] at g1; rw [c2] at g2; rw [c3] at g3
  injection g0 with g0; injection g1 with g1; injection g2 with g2; injection g3 with g3
  rw [← g0, ← g1, ← g2, ← g3]
  exact hs
/-- The row of sets does not lie where a view lies. -/
theorem eAt_ne {W : World} {b off B m : Nat} {G : Fin m → SV} {z0 z1 z2 z3 : Option Addr × Nat × Nat} {T : TypeId} (hG : EAt W b off G) (hm : 0 < m) (hB : W.heap[B]? = some (.cells #[slV z0, slV z1, slV z2, slV z3] T)) : b ≠ B := by
  rintro rfl
  have h := (hG ⟨0, hm⟩).2.1
  simp only [World.cell?, hB, slV] at h
  rcases Nat.lt_or_ge (off + 0 * 4 + 1) 4 with h4 | h4
  · have : off = 0 ∨ off = 1 ∨ off = 2 := by omega
    rcases this with rfl | rfl | rfl <;> simp at h
  · rw [Array.getElem?_eq_none (by simpa using h4)] at h
    simp at h
theorem results_view {fn : Func} {t : Tmp} (h : fn.results = #[.cell t 57]) (tmps : Array Value) (W : World) {a : Nat} {x0 x1 x2 x3 : Value} (h0 : x0.oneCell' = true) (h1 : x1.oneCell' = true) (h2 : x2.oneCell' = true) (h3 : x3.oneCell' = true)
    (ht : tmps.getD t undef = .pointer (some ⟨a, 0, none⟩)) (y0 : W.cell? ⟨a, 0, none⟩ = some x0) (y1 : W.cell? ⟨a, 1, none⟩ = some x1) (y2 : W.cell? ⟨a, 2, none⟩ = some x2) (y3 : W.cell? ⟨a, 3, none⟩ = some x3) : (results fn tmps).run Try.prog W = .ok (.agg #[x0, x1, x2, x3]) W := by
  have ht' : tmps[t]?.getD undef = .pointer (some ⟨a, 0, none⟩) := by rw [← ht]; simp
  have hu : ∀ w, Sem.run Try.prog (underlying 57) w = .ok _ w := run_underlying Try.underlying57
  have hz : ∀ w, Sem.run Try.prog (underlying 39) w = .ok _ w := run_underlying Try.underlying39
  simp [results, h, ht', loadVar, asAddr, go_sem, hu, hz, y0, y1, y2, y3, isAgg]
theorem cutsM_take {rs : List Rc} {k : Nat} (h : k < rs.length) : cutsM (rs.take (k + 1)) = cutsM (rs.take k) ++ if rs[k].data.ty = 2 then [⟨rs[k].owner, 0, rs[k].data⟩] else [] := by
  unfold cutsM
  rw [List.take_succ_eq_append_getElem h, List.filter_append, List.map_append]
  congr 1
  by_cases e : rs[k].data.ty = 2
  · rw [if_pos e]; simp [e]
  · rw [if_neg e]; simp [e]
theorem cutsM_len (rs : List Rc) : (cutsM rs).length ≤ rs.length := by unfold cutsM; rw [List.length_map]; exact List.length_filter_le _ _
theorem cutsM_ok {rs : List Rc} (h : ∀ r ∈ rs, RcOK r) : ∀ r ∈ cutsM rs, RcOK r := fun r hr => by
  unfold cutsM at hr
  obtain ⟨d, hd, rfl⟩ := List.mem_map.1 hr
  have := h d (List.mem_filter.1 hd).1
  exact ⟨this.1, by simp, this.2.2⟩
theorem sets_leL : ∀ (n : Nat) (l : List Rc), l.length ≤ n → (setsM l).length ≤ l.length
  | 0, l, h => by
    obtain rfl : l = [] := List.eq_nil_of_length_eq_zero (by omega)
    simp [setsM_nil]
  | n + 1, [], h => by simp [setsM_nil]
  | n + 1, y :: r, h => by
    rw [setsM_cons, List.length_cons, List.length_cons]
    have h1 : (r.dropWhile (belR y)).length ≤ r.length := (List.dropWhile_sublist _).length_le
    have := sets_leL n (r.dropWhile (belR y)) (by simp at h; omega)
    omega
/-- Where a row of sets lies that holds whatever else turns. -/
theorem rowS_range {W1 : World} {n Bx b off k c : Nat} {a : Option Addr} {ss : List St} (h0 : 0 < ss.length) (ha : a = some ⟨b, off, none⟩) (h : ∀ W' : World, (∀ g, n ≤ g → g < W1.heap.size → g ≠ Bx → W'.heap[g]? = W1.heap[g]?) → RowS W' (.slice a k c) ss) : n ≤ b ∧ b < W1.heap.size ∧ b ≠ Bx := by
  have key : ∀ W' : World, (∀ g, n ≤ g → g < W1.heap.size → g ≠ Bx → W'.heap[g]? = W1.heap[g]?) → ∃ v, W'.cell? ⟨b, off + 0 * 4, none⟩ = some v := fun W' hW' => by
    obtain ⟨b', off', e, hb, hel⟩ := (h W' hW').elem h0
    rw [ha] at e
    injection e with e
    injection e with e1 e2 _
    subst e1; subst e2
    obtain ⟨x0, x3, _, hc⟩ := hel 0 h0
    exact ⟨_, (hc W' (Below.refl _ _)).1⟩
  obtain ⟨v0, hv0⟩ := key W1 (fun _ _ _ _ => rfl)
  have hlt : b < W1.heap.size := World.block_lt_of_cell? W1 _ hv0
  have hcl : ∀ v, (W1.putObj b (.deferred none)).cell? ⟨b, off + 0 * 4, none⟩ ≠ some v := fun v e => by
    have h1 : (W1.putObj b (.deferred none)).heap[b]? = some (.deferred none) := World.putObj_heap_same hlt
    simp only [World.cell?, h1] at e
    cases e
  refine ⟨?_, hlt, ?_⟩
  · refine Nat.le_of_not_lt (fun hn => ?_)
    obtain ⟨v, hv⟩ := key (W1.putObj b (.deferred none)) (fun g q1 q2 q3 => World.putObj_heap_other (by omega))
    exact hcl v hv
  · rintro rfl
    obtain ⟨v, hv⟩ := key (W1.putObj b (.deferred none)) (fun g q1 q2 q3 => World.putObj_heap_other (fun e => q3 e))
    exact hcl v hv
def NvPost (wz w : World) (za : Option Addr) (zn zc : Nat) (o : Nm) (rs : List Rc) (e : Ending) (w' : World) : Prop := ∃ sa sn sc va vn vc ca cn cc, e = .returned (.agg #[.slice sa sn sc, .slice za zn zc, .slice va vn vc, .slice ca cn cc]) ∧ (∀ W', Below wz.heap.size wz W' → FarKeep w.heap.size w' W' → ViewAt W' sa sn sc za zn zc va vn vc (.slice ca cn cc) o (cutsM rs) (setsM (canonM rs)) (coversM o rs (setsM (canonM rs)))) ∧ Below w.heap.size w w'
/-- The sets' row, the box not yet made; or made ahead of the call. -/
def NvB (n : Nat) (W : World) (l : List St) (e : Ending) (w' : World) : Prop := ∃ sa sn sc, e = .returned (.slice sa sn sc) ∧ (∀ W', FarKeep n w' W' → RowS W' (.slice sa sn sc) l) ∧ Below W.heap.size W w'
theorem nvB {n : Nat} {W w' : World} {l : List St} {e : Ending} (hn : n ≤ W.heap.size) (h : SetsPostF W l e w') : NvB n W l e w' := by
  obtain ⟨v, rfl, h1, h2, h3⟩ := h
  obtain ⟨a, c, rfl⟩ := h1.shape
  exact ⟨a, _, c, rfl, fun W' hg => h3 W' (hg.mono hn), h2⟩
def NvA (W : World) (B : Nat) (l : List St) (e : Ending) (w' : World) : Prop := ∃ sa sn sc, e = .returned (.slice sa sn sc) ∧ (∀ W', FarKeep (B + 1) w' W' → RowS W' (.slice sa sn sc) l) ∧ Below W.heap.size W w' ∧ w'.heap[B]? = some (.cells #[.slice none 0 0, .slice none 0 0, .slice none 0 0, .slice none 0 0] 57)
theorem nvA {W w' : World} {B : Nat} {l : List St} {e : Ending} (hB : B < W.heap.size) (hX : W.heap[B]? = some (.cells #[.slice none 0 0, .slice none 0 0, .slice none 0 0, .slice none 0 0] 57)) (h : SetsPostF W l e w') : NvA W B l e w' := by
  obtain ⟨v, rfl, h1, h2, h3⟩ := h
  obtain ⟨a, c, rfl⟩ := h1.shape
  exact ⟨a, _, c, rfl, fun W' hg => h3 W' (hg.mono hB), h2, (h2.block B hB).trans hX⟩
theorem elemNmR : ElemT 23 27 24 := ⟨Try.underlying27, _, _, rfl, rfl, rfl, rfl, rfl⟩
/-- A view begun: its box, the sets' row. -/
def NvW (W0 : World) (O : Value) (ss : List St) (Bx : Nat) (S : Value) (W : World) : Prop := W0.heap.size ≤ Bx ∧ W.heap[Bx]? = some (.cells #[S, O, .slice none 0 0, .slice none 0 0] 57) ∧ (∀ W', (∀ g, W0.heap.size ≤ g → g < W.heap.size → g ≠ Bx → W'.heap[g]? = W.heap[g]?) → RowS W' S ss) ∧ Below W0.heap.size W0 W
theorem box4V {W : World} {B : Nat} {v0 v1 v2 v3 z0 z1 z2 z3 : Value} (h : W.heap[B]? = some (.cells #[z0, z1, z2, z3] 57)) : ((((W.setCell ⟨B, 0, none⟩ v0).setCell ⟨B, 1, none⟩ v1).setCell ⟨B, 2, none⟩ v2).setCell ⟨B, 3, none⟩ v3).heap[B]? = some (.cells #[v0, v1, v2, v3] 57) :=
  kset (kset (kset (kset h 0 v0) 1 v1) 2 v2) 3 v3
theorem grown4V (W : World) (B : Nat) (v0 v1 v2 v3 : Value) : W.grownBy ((((W.setCell ⟨B, 0, none⟩ v0).setCell ⟨B, 1, none⟩ v1).setCell ⟨B, 2, none⟩ v2).setCell ⟨B, 3, none⟩ v3) (some B) :=
  kg_trans (kg_trans (kg_trans (grownBy_set W B 0 v0) (grownBy_set _ B 1 v1)) (grownBy_set _ B 2 v2)) (grownBy_set _ B 3 v3)
theorem below4V {W0 W : World} {B : Nat} (h : Below W0.heap.size W0 W) (hB : W0.heap.size ≤ B) (v0 v1 v2 v3 : Value) : Below W0.heap.size W0 ((((W.setCell ⟨B, 0, none⟩ v0).setCell ⟨B, 1, none⟩ v1).setCell ⟨B, 2, none⟩ v2).setCell ⟨B, 3, none⟩ v3) :=
  (((h.setCell (p := ⟨B, 0, none⟩) hB v0).setCell (p := ⟨B, 1, none⟩) hB v1).setCell (p := ⟨B, 2, none⟩) hB v2).setCell (p := ⟨B, 3, none⟩) hB v3
theorem filter_snoc {α β : Type} (p : α → Bool) (f : α → β) (l : List α) (x : α) : ((l ++ [x]).filter p).map f = (l.filter p).map f ++ if p x = true then [f x] else [] := by
  rw [List.filter_append, List.map_append]
  congr 1
  cases h : p x <;> simp [h]
theorem KeepsOthers.grown_g {α : Type} {T : TypeId} {enc : α → Value} {W W' : World} {base : Nat} {v : Value} {xs : List α} (h : OwnG T enc W base v xs) (hg : W.grownBy W' v.ownBlock) : KeepsOthers W W' :=
  ⟨hg.size, fun i ob hi ho => (hg.block i (Array.getElem?_eq_some_iff.1 hi).1 (fun e => by
    rcases h.2 with ⟨rfl, _⟩ | ⟨g, cap, cur, rfl, _, hh, _⟩
    · cases e
    · simp only [Value.ownBlock] at e
      cases e
      rw [hi] at hh; cases hh; cases ho)).trans hi⟩
theorem finRange_filter (ss : List St) (p : St → Bool) : ((List.finRange ss.length).filter (fun x => p ss[x])).map (fun x => ss[x]) = ss.filter p := by
  have h : (List.finRange ss.length).map (fun x => ss[x]) = ss := by
    apply List.ext_getElem
    · simp
    · intro i h1 h2
      simp
  have h2 := congrArg (List.filter p) h
  rw [List.filter_map] at h2
  exact h2
theorem nms_of {α : Type} {W : World} {v : Value} {F : List α} {f : α → Option Addr × Nat × Nat} {g : α → Nm} (h : SlAt W v (F.map (slV ∘ f))) (hn : ∀ x ∈ F, NmAt W (slV (f x)) (g x)) : NmsAt W v (F.map g) :=
  ⟨_, h, by simp, fun j hj => by simp only [List.getElem_map]; exact hn _ (List.getElem_mem _)⟩
theorem EAt.keptB {W W' : World} {b off m : Nat} {G : Fin m → SV} (h : EAt W b off G) (hk : KeepB b W W') : EAt W' b off G := fun x => by
  obtain ⟨g0, g1, g2, g3⟩ := h x
  exact ⟨hk.cell.trans g0, hk.cell.trans g1, hk.cell.trans g2, hk.cell.trans g3⟩
/-- The covers so far. -/
def NvI (W3 : World) (Bx : Nat) (S O R : Value) {m : Nat} (G : Fin m → SV) (test : Fin m → Bool) (pre : List (Fin m)) (W : World) : Prop :=
  W3.grownBy W (some Bx) ∧ ∃ (ca : Option Addr) (cn cc : Nat), W.heap[Bx]? = some (.cells #[S, O, R, .slice ca cn cc] 57) ∧ OwnG 23 slV W W3.heap.size (.slice ca cn cc) ((pre.filter test).map fun x => (G x).1)
theorem NvI.below {W3 : World} {Bx : Nat} {S O R : Value} {m : Nat} {G : Fin m → SV} {test : Fin m → Bool} {pre : List (Fin m)} {W W' : World} (h : NvI W3 Bx S O R G test pre W) (hb : Below W.heap.size W W') : NvI W3 Bx S O R G test pre W' := by
  obtain ⟨h1, ca, cn, cc, h2, h3⟩ := h
  exact ⟨kg_belowA h1 hb, ca, cn, cc, (hb.block _ (kblock_lt h2)).trans h2, h3.below hb⟩
theorem nvI_own {W3 : World} {Bx : Nat} {S O R : Value} {m : Nat} {G : Fin m → SV} {test : Fin m → Bool} (hB : Bx < W3.heap.size) : OwnFrom W3.heap.size (NvI W3 Bx S O R G test) := by
  rintro pre W W' row ⟨h1, ca, cn, cc, h2, h3⟩ hg hr
  exact ⟨kg_far h1 hg (fun k e => .inl (hr k e).1), ca, cn, cc, (hg.block Bx (kblock_lt h2) (fun e => by have := (hr Bx e.symm).1; omega)).trans h2, h3.keptO hg (fun r e => (hr r e).2)⟩
section
attribute [local go_sem] Oper.semAt_some
set_option maxRecDepth 100000 in
set_option maxHeartbeats 16000000 in
theorem check_newView {wz w : World} {za : Option Addr} {zn zc : Nat} {v1 : Option Addr} {m c : Nat} {o : Nm} {rs : List Rc} (hbz : Below wz.heap.size wz w) (hZ : ZonS wz za zn zc v1 m c o rs) :
    Calls Try.prog 18 #[.agg #[.slice za zn zc, .slice v1 m c]] w (NvPost wz w za zn zc o rs) := by
  obtain ⟨hzo, hzk, ⟨css, hA, hR⟩, hOK, hm20⟩ := id hZ
  have hml : css.length = m := by obtain ⟨_, _, e, _⟩ := id hA; injection e with _ e _; exact e.symm
  have hrl : rs.length = m := by rw [← hR.1]; exact hml
  obtain ⟨ss, hss⟩ : ∃ ss, setsM (canonM rs) = ss := ⟨_, rfl⟩
  have hsl : ss.length ≤ 1048576 := by
    have h1 := sets_leL _ (canonM rs) (Nat.le_refl _); have h2 := canonM_length rs; rw [hss] at h1; omega
  have hsok : ∀ s ∈ ss, NmOK s.owner := fun s hs => (sets_ok hOK (by rw [hss]; exact hs)).1
  have HCS := Lib.hid (fun W (hb : Below w.heap.size w W) => (by
    have := rset_SetsF (.slice v1 m c) css rs W (hA.below (hbz.trans (hb.mono hbz.size))) (hR.below (hbz.trans (hb.mono hbz.size))) hOK (by omega)
    rw [hss] at this
    exact this : Calls Try.prog 36 #[.slice v1 m c] W (SetsPostF W ss)))
  have HZW := Lib.hid (fun W (hb : Below wz.heap.size wz W) => hzo.below hb)
  have HBZ := Lib.hid hbz
  have HA := Lib.hid hA; have HR := Lib.hid hR; have HML := Lib.hid hml; have HRL := Lib.hid hrl; have HOK := Lib.hid hOK; have HZK := Lib.hid hzk; have HSL := Lib.hid hsl; have HSOK := Lib.hid hsok; have HSS := Lib.hid hss
  unfold NvPost
  rw [hss]
  clear hZ hbz hzo hzk hA hR hOK hml hrl hsl hsok hss
  obtain ⟨W0, hW0⟩ : ∃ W0, (w.alloc (.cells #[.slice za zn zc, .slice v1 m c] 39)).alloc (.cells #[.slice none 0 0, .slice none 0 0, .slice none 0 0, .slice none 0 0] 57) = W0 := ⟨_, rfl⟩
  have hB0 : Below w.heap.size w W0 := by rw [← hW0]; exact ((Below.refl w.heap.size w).alloc (Nat.le_refl _) _).alloc (by simp) _
  have hz0 : W0.heap.size = w.heap.size + 2 := by rw [← hW0]; simp
  have x0 : W0.heap[w.heap.size]? = some (.cells #[.slice za zn zc, .slice v1 m c] 39) := by
    rw [← hW0]; exact (Below.heap_alloc _ _ _ (by simp)).trans (knew w _)
  have x1 : W0.heap[w.heap.size + 1]? = some (.cells #[.slice none 0 0, .slice none 0 0, .slice none 0 0, .slice none 0 0] 57) := by
    have h := knew (w.alloc (.cells #[.slice za zn zc, .slice v1 m c] 39)) (.cells #[.slice none 0 0, .slice none 0 0, .slice none 0 0, .slice none 0 0] 57)
    rw [World.size_alloc] at h
    rw [← hW0]; exact h
  have X0 := Lib.hid x0; have X1 := Lib.hid x1; have HB0 := Lib.hid hB0; have HZ0 := Lib.hid hz0
  have hS0 : W0.cell? ⟨w.heap.size, 0, none⟩ = some (.slice za zn zc) ∧ W0.cell? ⟨w.heap.size, 1, none⟩ = some (.slice v1 m c) ∧ Below W0.heap.size W0 W0 := ⟨kcell x0 0 _ rfl, kcell x0 1 _ rfl, Below.refl _ _⟩
  have hKB : ∀ W, Below W0.heap.size W0 W → W.cell? ⟨w.heap.size, 0, none⟩ = some (.slice za zn zc) ∧ W.cell? ⟨w.heap.size, 1, none⟩ = some (.slice v1 m c) ∧ Below W0.heap.size W0 W := fun W hb => by
    have h := (hb.block _ (kblock_lt X0.out)).trans X0.out
    exact ⟨kcell h 0 _ rfl, kcell h 1 _ rfl, hb⟩
  have hdr : ∀ W, Below W0.heap.size W0 W → Below W0.heap.size W0 W.drew := fun W h => h.trans ⟨rfl, rfl, rfl, Nat.le_refl _, fun _ _ => rfl⟩
  have KR := Lib.hid (fun W (h : W.cell? ⟨w.heap.size, 0, none⟩ = some (.slice za zn zc) ∧ W.cell? ⟨w.heap.size, 1, none⟩ = some (.slice v1 m c) ∧ Below W0.heap.size W0 W) => hKB _ (hdr W h.2.2))
  have KA := Lib.hid (fun W ob (h : W.cell? ⟨w.heap.size, 0, none⟩ = some (.slice za zn zc) ∧ W.cell? ⟨w.heap.size, 1, none⟩ = some (.slice v1 m c) ∧ Below W0.heap.size W0 W) => hKB _ (h.2.2.alloc h.2.2.size ob))
  have KS := Lib.hid (fun W W' (h : W.cell? ⟨w.heap.size, 0, none⟩ = some (.slice za zn zc) ∧ W.cell? ⟨w.heap.size, 1, none⟩ = some (.slice v1 m c) ∧ Below W0.heap.size W0 W) (hb : Below W.heap.size W W') => hKB W' (h.2.2.trans (hb.mono h.2.2.size)))
  have KP := Lib.hid (fun W u0 u1 u2 u3 (h : W.cell? ⟨w.heap.size, 0, none⟩ = some (.slice za zn zc) ∧ W.cell? ⟨w.heap.size, 1, none⟩ = some (.slice v1 m c) ∧ Below W0.heap.size W0 W) => hKB _ ((((h.2.2.setCell (p := ⟨W0.heap.size, 0, none⟩) (Nat.le_refl _) u0).setCell (p := ⟨W0.heap.size, 1, none⟩) (Nat.le_refl _) u1).setCell (p := ⟨W0.heap.size, 2, none⟩) (Nat.le_refl _) u2).setCell (p := ⟨W0.heap.size, 3, none⟩) (Nat.le_refl _) u3))
  have HAd : Hid (Calls Try.prog 36 #[.slice v1 m c] (W0.alloc (.cells #[.slice none 0 0, .slice none 0 0, .slice none 0 0, .slice none 0 0] 57)).drew (NvA (W0.alloc (.cells #[.slice none 0 0, .slice none 0 0, .slice none 0 0, .slice none 0 0] 57)).drew W0.heap.size ss)) := Lib.hid ((HCS.out _ (HB0.out.trans ((hdr _ ((Below.refl _ W0).alloc (Nat.le_refl _) _)).mono HB0.out.size))).mono (fun e w' h => nvA (by simp) (knewD W0 _) h))
  have HAd2 : Hid (Calls Try.prog 36 #[.slice v1 m c] (W0.drew.alloc (.cells #[.slice none 0 0, .slice none 0 0, .slice none 0 0, .slice none 0 0] 57)) (NvA (W0.drew.alloc (.cells #[.slice none 0 0, .slice none 0 0, .slice none 0 0, .slice none 0 0] 57)) W0.heap.size ss)) := Lib.hid ((HCS.out _ (HB0.out.trans (((hdr _ (Below.refl _ W0)).alloc (Nat.le_refl _) _).mono HB0.out.size))).mono (fun e w' h => nvA (Nat.lt_of_lt_of_eq (Nat.lt_succ_self _) (World.size_alloc W0.drew _).symm) (knew W0.drew _) h))
  have HBd := Lib.hid (fun W (h : W.cell? ⟨w.heap.size, 0, none⟩ = some (.slice za zn zc) ∧ W.cell? ⟨w.heap.size, 1, none⟩ = some (.slice v1 m c) ∧ Below W0.heap.size W0 W) => (HCS.out W (HB0.out.trans (h.2.2.mono HB0.out.size))).mono (fun e w' hh => nvB (n := W0.heap.size) h.2.2.size hh))
  clear x0 x1 hB0 hz0 hKB hdr
  refine (callsIn_wide (n := 8)).1 ?_
  refine callsIn_of_wp_marks Try.func18 rfl trivial ?_ rfl
  simp only [Try.ntmps18, List.size_toArray, List.length_cons, List.length_nil, Nat.reduceAdd, Nat.reduceSub, Array.replicate_succ, Array.replicate_zero, List.push_toArray, List.append_toArray, List.nil_append, List.cons_append]
  refine wpIn_wide.2 ?_
  go_upto_region 1 with (fail)
  clear hW0
  go_cut [3] from 7 to 13 (fun v wx => ∃ (Bx : Nat) (sa : Option Addr) (sn sc : Nat), v = .pointer (some ⟨Bx, 0, none⟩) ∧ Hid (NvW W0 (.slice za zn zc) ss Bx (.slice sa sn sc) wx))
  case first =>
    go_region_held3 (fun W => W.cell? ⟨w.heap.size, 0, none⟩ = some (.slice za zn zc) ∧ W.cell? ⟨w.heap.size, 1, none⟩ = some (.slice v1 m c) ∧ Below W0.heap.size W0 W)
      (first | with_reducible assumption | (with_reducible exact KR.out _ (by with_reducible assumption)) | (with_reducible exact KA.out _ _ (by with_reducible assumption)) | (with_reducible exact KR.out _ (KA.out _ _ (by with_reducible assumption))) | (with_reducible exact KA.out _ _ (KR.out _ (by with_reducible assumption))) | (with_reducible exact KP.out _ _ _ _ _ (by with_reducible assumption)))
      (first
        | ((with_reducible refine (HAd.out).mono ?_); rintro e w7 ⟨sa, sn, sc, rfl, hs7, hb7, hx7⟩; have hS2 := KS.out _ _ (by with_reducible assumption) hb7; have fz0 := kfrozen hx7 0; have fz1 := kfrozen hx7 1; have fz2 := kfrozen hx7 2; have fz3 := kfrozen hx7 3; have cl0 := kcell hx7 0 _ rfl; have cl1 := kcell hx7 1 _ rfl; have cl2 := kcell hx7 2 _ rfl; have cl3 := kcell hx7 3 _ rfl; have HSA := Lib.hid hs7; have HXA := Lib.hid hx7; clear hs7 hx7)
        | ((with_reducible refine (HAd2.out).mono ?_); rintro e w7 ⟨sa, sn, sc, rfl, hs7, hb7, hx7⟩; have hS2 := KS.out _ _ (by with_reducible assumption) hb7; have fz0 := kfrozen hx7 0; have fz1 := kfrozen hx7 1; have fz2 := kfrozen hx7 2; have fz3 := kfrozen hx7 3; have cl0 := kcell hx7 0 _ rfl; have cl1 := kcell hx7 1 _ rfl; have cl2 := kcell hx7 2 _ rfl; have cl3 := kcell hx7 3 _ rfl; have HSA := Lib.hid hs7; have HXA := Lib.hid hx7; clear hs7 hx7)
        | ((with_reducible refine (HBd.out _ (by with_reducible assumption)).mono ?_); rintro e w7 ⟨sa, sn, sc, rfl, hs7, hb7⟩; have hS2 := KS.out _ _ (by with_reducible assumption) hb7; have HSB := Lib.hid hs7; clear hs7))
    all_goals
      obtain ⟨h71, h72, h73⟩ := hS2
      first
      | (have hq := HSB
         clear hq
         go_wp2_with fail
         go_meet
         refine ⟨w7.heap.size, sa, sn, sc, rfl, Lib.hid ⟨h73.size, knew w7 _, fun W' hg => HSB.out W' (fun g q1 q2 => (hg g q1 (by rw [World.size_alloc]; omega) (by omega)).trans (Below.heap_alloc _ _ _ q2)), h73.alloc h73.size _⟩⟩)
      | (have hq := HSA
         clear hq
         go_wp2_with fail
         go_meet
         refine ⟨W0.heap.size, sa, sn, sc, rfl, Lib.hid ⟨Nat.le_refl _, box4V HXA.out, fun W' hg => HSA.out W' (fun g q1 q2 => (hg g (by omega) (Nat.lt_of_lt_of_le q2 (grown4V w7 W0.heap.size _ _ _ _).size) (by omega)).trans ((grown4V w7 W0.heap.size _ _ _ _).block g q2 (fun e => by injection e with e; omega))), below4V h73 (Nat.le_refl _) _ _ _ _⟩⟩)
  case rest =>
  rename World => W1
  obtain ⟨Bx, sa, sn, sc, rfl, HNV⟩ := hcut
  clear hS0 KR KA KS KP HAd HAd2 HBd HCS
  obtain ⟨hbx, hx1, hst1, hb01⟩ := HNV.out
  have x01 := (hb01.block _ (kblock_lt X0.out)).trans X0.out
  have y1 := kcell x01 1 _ rfl
  have hz0' := HZ0.out
  have hwle : w.heap.size + 2 ≤ Bx := by have := HZ0.out; omega
  have hb1 : Below w.heap.size w W1 := HB0.out.trans (hb01.mono HB0.out.size)
  have hsz1 := hb01.size
  have HFK := Lib.hid (fun (W' : World) (hg : ∀ g, W0.heap.size ≤ g → g < W1.heap.size → g ≠ Bx → W'.heap[g]? = W1.heap[g]?) => hst1 W' hg)
  have hst2 : ∀ W', W1.grownBy W' (some Bx) → RowS W' (.slice sa sn sc) ss := fun W' hg => hst1 W' (fun g q1 q2 q3 => hg.block g q2 (fun e => q3 (by injection e)))
  have HWR := Lib.hid (fun (W' : World) (hg : W1.grownBy W' (some Bx)) => (show Below wz.heap.size wz W' from HBZ.out.trans ((hb1.trans (kg_to hg (by omega) hb1.size)).mono HBZ.out.size)))
  have HWQ := Lib.hid (fun (W' : World) (hg : W1.grownBy W' (some Bx)) => (show Below w.heap.size w W' from hb1.trans (kg_to hg (by omega) hb1.size)))
  have HX1 := Lib.hid hx1; have HST := Lib.hid hst2; have HWL := Lib.hid hwle; have HBX := Lib.hid (kblock_lt hx1)
  have HRB := Lib.hid (show W1.heap[w.heap.size + 1]? = some (.cells #[.slice none 0 0, .slice none 0 0, .slice none 0 0, .slice none 0 0] 57) from (hb01.block _ (kblock_lt X1.out)).trans X1.out)
  have HZW0 := Lib.hid hz0'
  clear HNV hbx hx1 hst1 hst2 hsz1 hb01 x01 hwle hb1 X0 X1 HB0 HZ0
  go_wp2
  clear y1
  go_loopw [17] (fun vi wr => ∃ (k : Nat) (ga : Option Addr) (gn gc : Nat) (csw : List (List Value)), vi = .int .i64 k ∧ k ≤ m ∧ Hid (W1.grownBy wr (some Bx)) ∧ Hid (wr.heap[Bx]? = some (.cells #[.slice sa sn sc, .slice za zn zc, .slice ga gn gc, .slice none 0 0] 57)) ∧ Hid (OwnC 7 33 wr W1.heap.size (.slice ga gn gc) csw) ∧ Hid (Rcs wz csw (cutsM (rs.take k)))) (fun vi _ => m - (intOf vi).toNat)
  case atStart => exact ⟨0, none, 0, 0, [], rfl, Nat.zero_le _, Lib.hid (kg_refl _ _), HX1, Lib.hid (OwnK.nil _ _), Lib.hid ⟨rfl, fun i a => absurd a (by simp)⟩⟩
  case round =>
    obtain ⟨k, ga, gn, gc, csw, rfl, hk, HG, HX, HO, HRw⟩ := hrel
    by_cases hlt : k < m
    · have hltz : (k : Int) < (m : Int) := by omega
      have hk1 : k < css.length := by have := HML.out; omega
      have hk2 : k < rs.length := by have := HRL.out; omega
      have hwr := HWR.out _ HG.out
      obtain ⟨b, off, rfl, hb, hel⟩ := HA.out.elem HR.out.ck (by omega)
      have h0 := HR.out.2 k hk1 hk2
      have htk := cutsM_take hk2
      obtain ⟨d, hd⟩ : ∃ d, rs[k]'hk2 = d := ⟨_, rfl⟩
      rw [hd] at h0 htk
      obtain ⟨⟨p0, q0, k0⟩, ⟨p3, q3, k3⟩, ⟨p4, q4, k4⟩, ⟨p5, q5, k5⟩, ⟨p6, q6, k6⟩, e0⟩ := h0.shape
      simp only at e0
      obtain ⟨c0', c1, c2, c3, c4, c5, c6⟩ := hel k hk1 _ _ _ _ _ _ _ e0 wr hwr
      rw [e0] at h0
      have hnew : RcAt wz [.slice p0 q0 k0, .int .u32 0, .int .i64 d.data.ty, .slice p3 q3 k3, .slice p4 q4 k4, .slice p5 q5 k5, .slice p6 q6 k6] ⟨d.owner, 0, d.data⟩ := by
        obtain ⟨vo, vn, vu, vt, vr, e5, g1, g2⟩ := h0
        simp only [List.cons.injEq, and_true] at e5
        obtain ⟨r0, -, -, r3, r4, r5, r6⟩ := e5
        exact ⟨vo, vn, vu, vt, vr, by rw [r0, r3, r4, r5, r6]; rfl, g1, g2⟩
      have hbA := (Below.refl wr.heap.size wr).alloc (Nat.le_refl _) (.cells #[.slice p0 q0 k0, .int .u32 (d.ttl : Int), .int .i64 d.data.ty, .slice p3 q3 k3, .slice p4 q4 k4, .slice p5 q5 k5, .slice p6 q6 k6] 33)
      have HG1 := Lib.hid (kg_belowA HG.out hbA)
      have HO1 := Lib.hid (OwnK.below HO.out hbA)
      have hX1' := (hbA.block _ (kblock_lt HX.out)).trans HX.out
      have HX1' := Lib.hid hX1'
      have hb5 := knew wr (.cells #[.slice p0 q0 k0, .int .u32 (d.ttl : Int), .int .i64 d.data.ty, .slice p3 q3 k3, .slice p4 q4 k4, .slice p5 q5 k5, .slice p6 q6 k6] 33)
      have HTL := Lib.hid (show csw.length ≤ 1048576 by have h1 := HRw.out.1; have h2 := cutsM_len (rs.take k); rw [List.length_take] at h2; omega)
      have HNW := Lib.hid hnew; have HTK := Lib.hid htk
      have hs1 : W1.heap.size ≤ (wr.alloc (.cells #[.slice p0 q0 k0, .int .u32 (d.ttl : Int), .int .i64 d.data.ty, .slice p3 q3 k3, .slice p4 q4 k4, .slice p5 q5 k5, .slice p6 q6 k6] 33)).heap.size := HG1.out.size
      clear h0 htk hd e0 hk1 hk2 hel hwr hnew hbA HG HX HO
      generalize d.data.ty = ty at *
      generalize (d.ttl : Int) = tr at *
      by_cases hty : ty = 2
      · subst hty
        have HRw2 : Hid (Rcs wz (csw ++ [[.slice p0 q0 k0, .int .u32 0, .int .i64 2, .slice p3 q3 k3, .slice p4 q4 k4, .slice p5 q5 k5, .slice p6 q6 k6]]) (cutsM (rs.take (k + 1)))) := Lib.hid (by rw [HTK.out]; exact HRw.out.snoc HNW.out)
        have v2 := kcell hX1' 2 _ rfl
        have f2 := kfrozen hX1' 2
        have u0 := kcell hb5 0 _ rfl; have u2 := kcell hb5 2 _ rfl; have u3 := kcell hb5 3 _ rfl; have u4 := kcell hb5 4 _ rfl; have u5 := kcell hb5 5 _ rfl; have u6 := kcell hb5 6 _ rfl
        clear hX1' hb5 HTK HRw HNW
        go_wp2_with (at_builtin; go_loud (refine wpl_append_c' _ rfl (.tmp 27) (.tmp 33) elem_rec (by decide) rfl W1.heap.size (.slice ga gn gc) csw rfl HO1.out [.slice p0 q0 k0, .int .u32 0, .int .i64 2, .slice p3 q3 k3, .slice p4 q4 k4, .slice p5 q5 k5, .slice p6 q6 k6] rfl (by intro u hu; simp only [List.mem_cons, List.not_mem_nil, or_false] at hu; rcases hu with rfl | rfl | rfl | rfl | rfl | rfl | rfl <;> rfl) 1 (by simp [Act.eval]) hs1 (by have := HTL.out; unfold maxLen; omega) (by have := HTL.out; omega) ?_); intro v3 w3 hown3 hg3; obtain ⟨a9, c9, e9⟩ := OwnK.shape hown3; generalize hm9 : List.length (csw ++ _) = m9 at e9; subst e9; have hx3 := (hg3.block Bx (kblock_lt HX1'.out) (fun e => OwnK.ne_block HO1.out HX1'.out (by decide) e)).trans HX1'.out; have w2 := kcell hx3 2 _ rfl; have g2 := kfrozen hx3 2; have HX3 := Lib.hid hx3; have HO3 := Lib.hid hown3; have HG3 := Lib.hid hg3; clear hx3 hown3 hg3 hm9)
        have HG4 := Lib.hid (kg_trans (kg_far HG1.out HG3.out (fun k e => .inl (OwnK.base_le HO1.out k e))) (grownBy_set w3 Bx 2 (.slice a9 m9 c9)))
        have HX4 := Lib.hid (kset HX3.out 2 (.slice a9 m9 c9))
        have HO4 := Lib.hid (OwnK.keptB HO3.out HX3.out (by decide) 2 (.slice a9 m9 c9))
        go_roundw
        case measure => simp [intOf]; omega
        case rel => exact ⟨k + 1, a9, m9, c9, _, by go_num, by omega, HG4, HX4, HO4, HRw2⟩
      · have htb : (ty == 2) = false := by simpa using hty
        have HRw2 : Hid (Rcs wz csw (cutsM (rs.take (k + 1)))) := Lib.hid (by rw [HTK.out, if_neg hty, List.append_nil]; exact HRw.out)
        have u2 := kcell hb5 2 _ rfl
        clear hX1' hb5 HTK HRw HNW
        go_wp2
        go_roundw
        case measure => simp [intOf]; omega
        case rel => exact ⟨k + 1, ga, gn, gc, csw, by go_num, by omega, HG1, HX1', HO1, HRw2⟩
    · obtain rfl : k = m := by omega
      have hR2 := HRw.out
      rw [List.take_of_length_le (by have := HRL.out; omega)] at hR2
      have HR2 := Lib.hid hR2
      have v0 := kcell HX.out 0 _ rfl
      clear HRw hR2 hlt hk
      go_wp2_with fail
      refine (check_each _ _ rfl).mono ?_
      rintro e w' ⟨rfl, rfl⟩
      clear v0
      obtain ⟨W3, hW3⟩ : ∃ W3, wr.alloc (.cells #[.slice sa sn sc] 55) = W3 := ⟨_, rfl⟩
      have hB3 : Below wr.heap.size wr W3 := by rw [← hW3]; exact (Below.refl wr.heap.size wr).alloc (Nat.le_refl _) _
      have hz3 : W3.heap.size = wr.heap.size + 1 := by rw [← hW3, World.size_alloc]
      have HGA := Lib.hid (kg_belowA HG.out hB3)
      have hX3 := (hB3.block _ (kblock_lt HX.out)).trans HX.out
      have hxe : W3.cell? ⟨wr.heap.size, 0, none⟩ = some (.slice sa sn sc) := by rw [← hW3]; exact kcell (knew wr _) 0 _ rfl
      have hO3 := OwnK.below HO.out hB3
      obtain ⟨b, off, G, ha, hbl, hn, hG3, -⟩ := (HST.out W3 HGA.out).vals
      have hne : 0 < ss.length → b ≠ Bx := fun h0 => eAt_ne (z0 := (sa, sn, sc)) (z1 := (za, zn, zc)) (z2 := (ga, gn, gc)) (z3 := (none, 0, 0)) (hG3 W3 (Below.refl _ _)) h0 hX3
      subst hn
      obtain ⟨b, off, ha, hbl, hG3, hne⟩ : ∃ b2 off2, (ss.length = 0 ∨ sa = some ⟨b2, off2, none⟩) ∧ b2 < W3.heap.size ∧ (∀ W', Below W3.heap.size W3 W' → EAt W' b2 off2 G) ∧ (0 < ss.length → b2 ≠ Bx) := by
        by_cases h0 : 0 < ss.length
        · exact ⟨b, off, ha, World.block_lt_of_cell? W3 _ ((hG3 W3 (Below.refl _ _)) ⟨0, h0⟩).1, hG3, hne⟩
        · exact ⟨0, 0, .inl (by omega), by omega, fun W' _ x => absurd x.isLt (by omega), fun h => absurd h h0⟩
      have HZ3 := Lib.hid hz3; have HX3 := Lib.hid hX3; have HXE := Lib.hid hxe; have HO3 := Lib.hid hO3; have HAA := Lib.hid ha; have HBL := Lib.hid hbl; have HG3 := Lib.hid hG3; have HNE := Lib.hid hne
      clear hB3 hz3 hX3 hxe hO3 ha hbl hG3 hne HG HX HO
      go_wp2_with fail
      refine (wpIn_wide (n := 8)).1 ?_
      clear hW3
      obtain ⟨test, htest⟩ : ∃ t : Fin ss.length → Bool, t = (fun x : Fin ss.length => decide (ss[x].ty = 39) && decide (whereM o rs ss[x].owner = 1)) := ⟨_, rfl⟩
      have HTEST := Lib.hid htest
      clear htest
      refine wpIn_rangeFunc_ownH rfl (by omega) (gf := 38) (lb := #[.pointer (some ⟨wr.heap.size, 0, none⟩)]) rfl trivial (enters_of Try.func38 (by kernel_rfl) rfl)
        (each_stops _ (by omega) wr.heap.size sa b off ss.length sc G HAA.out HSL.out W3 (by rw [HZ3.out]; omega) HXE.out HG3.out) keepB_t
        (keepB_b HBL.out) (Below.refl _ _) (fun _ => rfl)
        (NvI W3 Bx (.slice sa ss.length sc) (.slice za zn zc) (.slice ga gn gc) G test)
        (fun _ _ _ => False)
        (nvI_own (kblock_lt HX3.out)) (fun _ => ownFrom_pure _ _)
        ⟨kg_refl _ _, none, 0, 0, HX3.out, OwnG.nil _ _⟩
        (fun x a' W => ∃ B6, a' = { tmps := #[.agg #[.slice za zn zc, .slice v1 k c], .pointer (some ⟨w.heap.size, 0, none⟩), .pointer (some ⟨w.heap.size + 1, 0, none⟩), .pointer (some ⟨Bx, 0, none⟩), undef, u5, .pointer (some ⟨B6, 0, none⟩), u7, u8, u9, u10, u11, u12, u13, .pointer (some ⟨w.heap.size, 1, none⟩), .slice v1 k c, .int .i64 (k : Int), .int .i64 (k : Int), .bool false, u19, u20, u21, u22, u23, u24, u25, u26, u27, u28, u29, u30, u31, u32, u33, u34, u35, u36, u37, .pointer (some ⟨Bx, 0, none⟩), .slice sa ss.length sc, .func (.func 38) #[] #[.pointer (some ⟨wr.heap.size, 0, none⟩)], .agg #[.slice (G x).1.1 (G x).1.2.1 (G x).1.2.2, .int .i64 (G x).2.1, .int .u32 (G x).2.2.1, .slice (G x).2.2.2.1 (G x).2.2.2.2.1 (G x).2.2.2.2.2], undef, undef, undef, undef, undef, undef, undef, undef, undef, undef, undef, undef, undef, undef, undef, undef, undef, undef, undef], defers := [] } ∧ W3.heap.size ≤ B6 ∧ W.heap[B6]? = some (.cells #[.slice (G x).1.1 (G x).1.2.1 (G x).1.2.2, .int .i64 (G x).2.1, .int .u32 (G x).2.2.1, .slice (G x).2.2.2.1 (G x).2.2.2.2.1 (G x).2.2.2.2.2] 64)) (fun x a' u W W' row ⟨B6, ha, hb, hx⟩ hg hr => ⟨B6, ha, hb, (hg.block B6 (kblock_lt hx) (fun e => by obtain ⟨_, o, ho, hcell⟩ := hr B6 e.symm; rw [hx] at ho; cases ho; cases hcell)).trans hx⟩) ?assign ?body ?done ?stop
      case assign =>
        intro l pre x W K hi hK
        unfold eV
        gi_wp2
        have hbA : ∀ ob, Below W.heap.size W (W.alloc ob) := fun ob => (Below.refl _ W).alloc (Nat.le_refl _) ob
        exact hK _ _ ((KeepsOthers.of_below (hbA _)).from _) (KeepB.alloc W _ (Nat.lt_of_lt_of_le HBL.out hi.1.size)) (hi.below (hbA _)) ⟨W.heap.size, rfl, hi.1.size, knew W _⟩
      case body =>
        rintro l pre x a' W hl2 hlp ⟨hg, ca, cn, cc, hx, ho⟩ ⟨B6, rfl, hB6, hx6⟩ hlt
        have hG1 := kg_trans HGA.out hg
        have hww := HWR.out W hG1
        have hxl := x.isLt
        have hbne := HNE.out (by omega)
        have hEA : EAt W b off G := (HG3.out W3 (Below.refl _ _)).keptB (hg.block b HBL.out (fun e => hbne (by injection e)))
        obtain ⟨hown, hty, -⟩ := ((HST.out W hG1).at HAA.out hEA x).own
        have hz : ZonS W za zn zc ga gn gc o (cutsM rs) := by
          refine ⟨HZW.out W hww, HZK.out, ⟨csw, SlK.of_own (OwnK.kept HO3.out hg (.inr (fun e => OwnK.ne_block HO3.out HX3.out (by decide) e.symm))) HR2.out.ck, HR2.out.below hww⟩, cutsM_ok HOK.out, ?_⟩
          obtain ⟨_, _, e⟩ := OwnK.shape HO3.out
          injection e with _ e _
          have h1 := HR2.out.1; have h2 := cutsM_len rs; have h3 := HRL.out
          omega
        have hcn := zone_Where hz hown (HSOK.out _ (List.getElem_mem _))
        rw [where_cuts] at hcn
        obtain ⟨wv, hwv⟩ : ∃ y, whereM o rs ss[x].owner = y := ⟨_, rfl⟩
        have HTS := Lib.hid (show test x = (decide ((G x).2.1 = 39) && decide (wv = 1)) by rw [HTEST.out]; simp only [hwv, hty])
        rw [hwv] at hcn
        have HNL := Lib.hid (show cn ≤ 1048576 ∧ cn = ((pre.filter test).map fun x => (G x).1).length by
          obtain ⟨_, _, e⟩ := ho.shape
          injection e with _ e _
          have h1 := List.length_filter_le test pre
          rw [List.length_map] at e
          have h2 := HSL.out
          exact ⟨by omega, by rw [List.length_map]; exact e⟩)
        have HFS := Lib.hid (filter_snoc test (fun x => (G x).1) pre x)
        have HII := Lib.hid (show NvI W3 Bx (.slice sa ss.length sc) (.slice za zn zc) (.slice ga gn gc) G test pre W from ⟨hg, ca, cn, cc, hx, ho⟩)
        have HBW := Lib.hid (Nat.lt_of_lt_of_le HBL.out hg.size)
        have y0 := kcell hx6 0 _ rfl; have y1 := kcell hx6 1 _ rfl
        have z1 := kcell hx 1 _ rfl; have z2 := kcell hx 2 _ rfl
        have HX6 := Lib.hid hx6; have HXX := Lib.hid hx; have HOO := Lib.hid ho; have HGG := Lib.hid hg; have HBN := Lib.hid hbne
        generalize hxs : ((pre.filter test).map fun x => (G x).1) = xs at *
        have HXS := Lib.hid hxs
        clear hg hx ho hx6 hB6 hG1 hbne hEA hown hty hz hwv hlp hlt hww hxl hxs
        have e0 : (G x).1 = ((G x).1.1, (G x).1.2.1, (G x).1.2.2) := rfl
        rw [e0] at HFS
        generalize (G x).1.1 = g0 at *
        generalize (G x).1.2.1 = g1 at *
        generalize (G x).1.2.2 = g2 at *
        generalize (G x).2.1 = tx at *
        clear e0
        by_cases h39 : tx = 39
        · subst h39
          by_cases hw1 : wv = 1
          · subst hw1
            have HT : Hid (test x = true) := Lib.hid (by rw [HTS.out]; rfl)
            have hz0 := HGG.out.size
            gi_wp2_with (first | (refine ⟨trivial, ?_⟩; gi_at_call 37; refine (CallsIn.inRound l (callsIn_wide.2 hcn)).mono ?_; rintro e w9 ⟨rfl, hb9⟩; have hx9 := (hb9.block _ (kblock_lt HXX.out)).trans HXX.out; have h69 := (hb9.block _ (kblock_lt HX6.out)).trans HX6.out; have z3 := kcell hx9 3 _ rfl; have q3 := kfrozen hx9 3; have s0 := kcell h69 0 _ rfl; have HX9 := Lib.hid hx9; have HO9 := Lib.hid (HOO.out.below hb9); have HB9 := Lib.hid hb9; have hz9 : W3.heap.size ≤ w9.heap.size := Nat.le_trans hz0 hb9.size; clear hx9 h69 hb9) | (gi_at_builtin; refine wplIn_append_g w9 rfl (.tmp 54) (.tmp 57) elemNmR rfl (fun _ => rfl) W3.heap.size (.slice ca cn cc) xs rfl HO9.out [.slice g0 g1 g2] [(g0, g1, g2)] rfl 1 1 rfl rfl hz9 (by have := HNL.out; unfold maxLen; simp; omega) (by have := HNL.out; simp; omega) ?_; intro v' w1' hown' hg'; obtain ⟨a', n', c', rfl⟩ : ∃ a n c, v' = .slice a n c := (by obtain ⟨a, c, e⟩ := hown'.shape; exact ⟨_, _, _, e⟩); have hx10 := (hg'.block Bx (kblock_lt HX9.out) (fun e => OwnG.ne_block HO9.out HX9.out (by decide) e)).trans HX9.out; have z10 := kcell hx10 3 _ rfl; have q10 := kfrozen hx10 3; have HX10 := Lib.hid hx10; have HO10 := Lib.hid hown'; have HG10 := Lib.hid hg'; clear hx10 hown' hg'))
            have hg9 : W3.grownBy w9 (some Bx) := kg_belowA HGG.out HB9.out
            have hg10 := kg_trans (kg_far hg9 HG10.out (fun k e => .inl (HO9.out.base_le k e))) (grownBy_set w1' Bx 3 (.slice a' n' c'))
            refine ⟨(((KeepsOthers.of_below HB9.out).trans (KeepsOthers.grown_g HO9.out HG10.out)).trans (KeepsOthers.setCell _ _ _)).from _, ?_, hg10, a', n', c', kset HX10.out 3 _, ?_⟩
            · exact ((grownBy_set w1' Bx 3 (.slice a' n' c')).block b (Nat.lt_of_lt_of_le HBL.out (Nat.le_trans hz9 HG10.out.size)) (fun e => HBN.out (by injection e))).trans ((HG10.out.block b (Nat.lt_of_lt_of_le HBL.out hz9) (fun e => by have := HO9.out.base_le b e.symm; have := HBL.out; omega)).trans (HB9.out.block b HBW.out))
            · rw [HFS.out, if_pos HT.out]
              exact OwnG.keptB HO10.out HX10.out (by decide) 3 _
          · have hwb : (wv == 1) = false := by simpa using hw1
            have HT : Hid (test x = false) := Lib.hid (by rw [HTS.out]; simp [hw1])
            gi_wp2_with (refine ⟨trivial, ?_⟩; gi_at_call 37; refine (CallsIn.inRound l (callsIn_wide.2 hcn)).mono ?_; rintro e w9 ⟨rfl, hb9⟩)
            refine ⟨(KeepsOthers.of_below hb9).from _, hb9.block b HBW.out, ?_⟩
            have h := HII.out.below hb9
            obtain ⟨i1, i2, i3, i4, i5, i6⟩ := h
            exact ⟨i1, i2, i3, i4, i5, by rw [HFS.out, HT.out]; rw [HXS.out] at i6; simpa using i6⟩
        · have htb : (tx == 39) = false := by simpa using h39
          have HT : Hid (test x = false) := Lib.hid (by rw [HTS.out]; simp [h39])
          clear hcn
          gi_wp2
          refine ⟨trivial, ?_⟩
          gi_wp2
          refine ⟨(KeepsOthers.refl _).from _, KeepB.refl _ _, ?_⟩
          obtain ⟨i1, i2, i3, i4, i5, i6⟩ := HII.out
          exact ⟨i1, i2, i3, i4, i5, by rw [HFS.out, HT.out]; rw [HXS.out] at i6; simpa using i6⟩
      case done =>
        rintro D xs2 W hD rfl ⟨hg, ca, cn, cc, hx, ho⟩ hK
        have hG1 := kg_trans HGA.out hg
        have hww := HWQ.out W hG1
        have hwl := HWL.out
        have hz3 := HZ3.out
        have hs13 : W1.heap.size ≤ W3.heap.size := HGA.out.size
        have hrb1 : W1.heap[w.heap.size + 1]? = some (.cells #[.slice none 0 0, .slice none 0 0, .slice none 0 0, .slice none 0 0] 57) := HRB.out
        have hrb3 := (HGA.out.block _ (kblock_lt hrb1) (fun e => by injection e; omega)).trans hrb1
        have hrb := (hg.block _ (kblock_lt hrb3) (fun e => by injection e; omega)).trans hrb3
        have hw1 : w.heap.size + 1 < W1.heap.size := kblock_lt hrb1
        have hg4 := grown4V W (w.heap.size + 1) (.slice sa ss.length sc) (.slice za zn zc) (.slice ga gn gc) (.slice ca cn cc)
        have hDl : D < W.heap.size := kblock_lt hK
        obtain ⟨Wf, hWf⟩ : ∃ Wf, (((((W.setCell ⟨w.heap.size + 1, 0, none⟩ (.slice sa ss.length sc)).setCell ⟨w.heap.size + 1, 1, none⟩ (.slice za zn zc)).setCell ⟨w.heap.size + 1, 2, none⟩ (.slice ga gn gc)).setCell ⟨w.heap.size + 1, 3, none⟩ (.slice ca cn cc)).putObj D (.deferred none)) = Wf := ⟨_, rfl⟩
        have hKs : ((((W.setCell ⟨w.heap.size + 1, 0, none⟩ (.slice sa ss.length sc)).setCell ⟨w.heap.size + 1, 1, none⟩ (.slice za zn zc)).setCell ⟨w.heap.size + 1, 2, none⟩ (.slice ga gn gc)).setCell ⟨w.heap.size + 1, 3, none⟩ (.slice ca cn cc)).heap[D]? = some (.deferred (some [])) := (hg4.block D hDl (fun e => by injection e; omega)).trans hK
        have hfb : Wf.heap[w.heap.size + 1]? = some (.cells #[.slice sa ss.length sc, .slice za zn zc, .slice ga gn gc, .slice ca cn cc] 57) := by
          rw [← hWf]; exact (World.putObj_heap_other (by omega)).trans (box4V hrb)
        have hfo : ∀ g, g < W.heap.size → g ≠ w.heap.size + 1 → g ≠ D → Wf.heap[g]? = W.heap[g]? := fun g q1 q2 q3 => by
          rw [← hWf]; exact (World.putObj_heap_other (fun e => q3 (by omega))).trans (hg4.block g q1 (fun e => by injection e; omega))
        have hfw : Below w.heap.size w Wf := by
          rw [← hWf]
          refine below_putO ?_ (by omega) (Nat.le_refl _)
          exact (((hww.setCell (p := ⟨w.heap.size + 1, 0, none⟩) (by simp) _).setCell (p := ⟨w.heap.size + 1, 1, none⟩) (by simp) _).setCell (p := ⟨w.heap.size + 1, 2, none⟩) (by simp) _).setCell (p := ⟨w.heap.size + 1, 3, none⟩) (by simp) _
        have hagr : ∀ g, g < W1.heap.size → g ≠ Bx → g ≠ w.heap.size + 1 → Wf.heap[g]? = W1.heap[g]? := fun g q2 q3 q4 => (hfo g (Nat.lt_of_lt_of_le q2 hG1.size) q4 (by omega)).trans (hG1.block g q2 (fun e => q3 (by injection e)))
        have hgp : (((((W.setCell ⟨w.heap.size + 1, 0, none⟩ (.slice sa ss.length sc)).setCell ⟨w.heap.size + 1, 1, none⟩ (.slice za zn zc)).setCell ⟨w.heap.size + 1, 2, none⟩ (.slice ga gn gc)).setCell ⟨w.heap.size + 1, 3, none⟩ (.slice ca cn cc))).grownBy Wf (some D) := by rw [← hWf]; exact grownBy_putObj' _ D _
        have hrd : ∀ r, some D = some r → ∃ ob : Obj, ((((W.setCell ⟨w.heap.size + 1, 0, none⟩ (.slice sa ss.length sc)).setCell ⟨w.heap.size + 1, 1, none⟩ (.slice za zn zc)).setCell ⟨w.heap.size + 1, 2, none⟩ (.slice ga gn gc)).setCell ⟨w.heap.size + 1, 3, none⟩ (.slice ca cn cc)).heap[r]? = some ob ∧ ob.isCells = false := fun r e => by cases e; exact ⟨_, hKs, rfl⟩
        have hfs : W.heap.size ≤ Wf.heap.size := Nat.le_trans hg4.size hgp.size
        have hh2 : OwnC 7 33 Wf W1.heap.size (.slice ga gn gc) csw := by
          have h1 : OwnC 7 33 W W1.heap.size (.slice ga gn gc) csw := OwnK.kept HO3.out hg (.inr (fun e => OwnK.ne_block HO3.out HX3.out (by decide) e.symm))
          exact OwnC.keptO (OwnK.kept h1 hg4 (.inr (fun e => OwnK.ne_block h1 hrb (by decide) e.symm))) hgp hrd
        have hc2 := (OwnG.kept ho hg4 (.inr (fun e => OwnG.ne_block ho hrb (by decide) e.symm))).keptO hgp hrd
        have hwW1 : w.heap.size ≤ W1.heap.size := by omega
        have HV : Hid (∀ W', Below wz.heap.size wz W' → FarKeep w.heap.size Wf W' → ViewAt W' sa ss.length sc za zn zc ga gn gc (.slice ca cn cc) o (cutsM rs) ss (coversM o rs ss)) := Lib.hid (fun W' hbw' hfk => by
          have hrow : RowS W' (.slice sa ss.length sc) ss := HFK.out W' (fun g q1 q2 q3 => (hfk g (by have := HZW0.out; omega) (Nat.lt_of_lt_of_le (Nat.lt_of_lt_of_le q2 hG1.size) hfs)).trans (hagr g q2 q3 (by have := HZW0.out; omega)))
          have hcz : ZonS W' za zn zc ga gn gc o (cutsM rs) := by
            refine ⟨HZW.out W' hbw', HZK.out, ⟨csw, SlK.of_own (OwnK.move hh2 (hfk.mono hwW1)) HR2.out.ck, HR2.out.below hbw'⟩, cutsM_ok HOK.out, ?_⟩
            obtain ⟨_, _, e⟩ := OwnK.shape HO3.out
            injection e with _ e _
            have q1 := HR2.out.1; have q2 := cutsM_len rs; have q3 := HRL.out
            omega
          have hcv : NmsAt W' (.slice ca cn cc) (coversM o rs ss) := by
            have h3 := SlAt.of_own (OwnG.move hc2 (hfk.mono (by omega)))
            rw [List.map_map] at h3
            have e : coversM o rs ss = ((List.finRange ss.length).filter test).map fun x => ss[x].owner := by
              unfold coversM
              rw [HTEST.out, ← finRange_filter ss (fun s => decide (s.ty = 39) && decide (whereM o rs s.owner = 1)), List.map_map]; rfl
            rw [e]
            refine nms_of h3 (fun x hxm => ?_)
            have hxl := x.isLt
            have hsa : sa = some ⟨b, off, none⟩ := by
              rcases HAA.out with h | h
              · omega
              · exact h
            obtain ⟨r1, r2, r3⟩ := rowS_range (by omega) hsa HFK.out
            have hEA : EAt W' b off G := (HG3.out W3 (Below.refl _ _)).keptB ((hfk b (by have := HZW0.out; omega) (Nat.lt_of_lt_of_le (Nat.lt_of_lt_of_le r2 hG1.size) hfs)).trans ((hagr b r2 r3 (by have := HZW0.out; omega)).trans (HGA.out.block b r2 (fun e => r3 (by injection e))).symm))
            exact (hrow.at HAA.out hEA x).own.1
          exact ⟨hrow, HSOK.out, HSL.out, hcz, hcv, fun n hn => by
            unfold coversM at hn
            obtain ⟨s, hs, rfl⟩ := List.mem_map.1 hn
            exact HSOK.out s (List.mem_filter.1 hs).1, by
            unfold coversM
            rw [List.length_map]
            exact Nat.le_trans (List.length_filter_le _ _) HSL.out⟩)
        have y0 := kcell hx 0 _ rfl; have y1 := kcell hx 1 _ rfl; have y2 := kcell hx 2 _ rfl; have y3 := kcell hx 3 _ rfl
        have r0 := kcell hrb 0 _ rfl; have r1 := kcell hrb 1 _ rfl; have r2 := kcell hrb 2 _ rfl; have r3 := kcell hrb 3 _ rfl
        have s0 := kfrozen hrb 0; have s1 := kfrozen hrb 1; have s2 := kfrozen hrb 2; have s3 := kfrozen hrb 3
        have HKS := Lib.hid hKs; have HFB := Lib.hid hfb; have HWF := Lib.hid hWf; have HFW := Lib.hid hfw
        clear hg hx ho hK hG1 hww hwl hz3 hs13 hrb1 hrb3 hrb hw1 hg4 hDl hWf hKs hfb hfo hfw hagr hgp hrd hfs hh2 hc2 hwW1 hD
        go_wp2
        refine ⟨by simp, .inl ⟨_, _, rfl, run_takeDeferred HKS.out, ?_⟩⟩
        rw [HWF.out]
        refine ⟨_, results_view rfl _ _ rfl rfl rfl rfl rfl (kcell HFB.out 0 _ rfl) (kcell HFB.out 1 _ rfl) (kcell HFB.out 2 _ rfl) (kcell HFB.out 3 _ rfl), ?_⟩
        exact ⟨sa, _, sc, ga, gn, gc, ca, cn, cc, rfl, HV.out, HFW.out⟩
      case stop =>
        rintro D k pre W hD hp hF hK
        exact hF.elim
end
end Go.Proofs.Ytckammgnmgkieaa

/-
  check.atOrigin: flaws of the call's own making; its closure.
-/
namespace Go.Proofs.Ytckammgnmgkieaa
set_option maxRecDepth 20000
open Go.RowKit Go.Shelf
set_option maxRecDepth 20000
set_option linter.unusedVariables false
set_option linter.unusedSimpArgs false
theorem elem_fl : ElemK 3 43 36 40 := ⟨Try.underlying36, _, _, rfl, rfl, rfl, rfl, rfl⟩
theorem flC_len (k t : Int) (a : Option Addr) (n c : Nat) : ∀ cs ∈ [[Value.int .i64 k, .slice a n c, .int .i64 t]], cs.length = 3 := by
  intro cs hc
  rw [List.mem_singleton] at hc
  subst hc; rfl
theorem flC_one (k t : Int) (a : Option Addr) (n c : Nat) : ∀ cs ∈ [[Value.int .i64 k, .slice a n c, .int .i64 t]], ∀ u ∈ cs, u.oneCell' = true := by
  intro cs hc u hu
  rw [List.mem_singleton] at hc
  subst hc
  simp only [List.mem_cons, List.not_mem_nil, or_false] at hu
  rcases hu with rfl | rfl | rfl <;> rfl
/-- A flaw whose name is its own. -/
def FrFl (W : World) (base : Nat) (cs : List Value) (f : Fl) : Prop := ∃ vo, cs = [.int .i64 f.kind, vo, .int .i64 f.ty] ∧ OwnG 9 strV W base vo f.owner
theorem FrFl.flAt {W : World} {base : Nat} {cs : List Value} {f : Fl} (h : FrFl W base cs f) : FlAt W cs f := by
  obtain ⟨vo, e, h1⟩ := h
  exact ⟨vo, e, h1.nmAt⟩
theorem FrFl.below {W W' : World} {base : Nat} {cs : List Value} {f : Fl} (h : FrFl W base cs f) (hb : Below W.heap.size W W') : FrFl W' base cs f := by
  obtain ⟨vo, e, h1⟩ := h
  exact ⟨vo, e, h1.below hb⟩
theorem FrFl.weaken {W : World} {base b2 : Nat} {cs : List Value} {f : Fl} (h : FrFl W base cs f) (hb : b2 ≤ base) : FrFl W b2 cs f := by
  obtain ⟨vo, e, h1⟩ := h
  exact ⟨vo, e, h1.weaken hb⟩
theorem FrFl.kept_c {W W' : World} {base base' k : Nat} {cs : List Value} {f : Fl} {T' : TypeId} {v' : Value} {yss : List (List Value)} (h : FrFl W base cs f) (h' : OwnC k T' W base' v' yss) (hT : 9 ≠ T') (hg : W.grownBy W' v'.ownBlock) : FrFl W' base cs f := by
  obtain ⟨vo, e, h1⟩ := h
  exact ⟨vo, e, h1.kept_c h' hT hg⟩
theorem FrFl.keptB {W : World} {base : Nat} {cs : List Value} {f : Fl} (h : FrFl W base cs f) {B : Nat} {xs : Array Value} {T : TypeId} (hB : W.heap[B]? = some (.cells xs T)) (hT : T ≠ 9) (j : Nat) (u : Value) : FrFl (W.setCell ⟨B, j, none⟩ u) base cs f := by
  obtain ⟨vo, e, h1⟩ := h
  exact ⟨vo, e, h1.keptB hB hT j u⟩
theorem FrFl.keptO {W W' : World} {base : Nat} {cs : List Value} {f : Fl} {row : Option Nat} (h : FrFl W base cs f) (hg : W.grownBy W' row) (hr : ∀ r, row = some r → ∃ o : Obj, W.heap[r]? = some o ∧ o.isCells = false) : FrFl W' base cs f := by
  obtain ⟨vo, e, h1⟩ := h
  exact ⟨vo, e, h1.keptO hg hr⟩
/-- A row of such flaws. -/
def FrFls (W : World) (base : Nat) (css : List (List Value)) (fs : List Fl) : Prop := css.length = fs.length ∧ ∀ i (h1 : i < css.length) (h2 : i < fs.length), FrFl W base css[i] fs[i]
theorem FrFls.snoc {W : World} {base : Nat} {css : List (List Value)} {fs : List Fl} {cs : List Value} {f : Fl} (h : FrFls W base css fs) (h1 : FrFl W base cs f) : FrFls W base (css ++ [cs]) (fs ++ [f]) := by
  refine ⟨by simp [h.1], fun i a b => ?_⟩
  by_cases hi : i < css.length
  · rw [List.getElem_append_left hi, List.getElem_append_left (by have := h.1; omega)]
    exact h.2 i hi (by have := h.1; omega)
  · have e : i = css.length := by simp at a; omega
    subst e
    rw [List.getElem_append_right (by omega), List.getElem_append_right (by have := h.1; omega)]
    simp only [List.getElem_singleton]
    exact h1
theorem FrFls.fls {W : World} {base : Nat} {css : List (List Value)} {fs : List Fl} (h : FrFls W base css fs) : Fls' W css fs := ⟨h.1, fun i a b => (h.2 i a b).flAt⟩
/-- Flaws told so far: a boxed row. -/
def FOut (W0 : World) (B : Nat) (fs : List Fl) (W : World) : Prop := ∃ (ga : Option Addr) (gn gc : Nat) (css : List (List Value)), W.heap[B]? = some (.cells #[.slice ga gn gc] 36) ∧ OwnC 3 43 W W0.heap.size (.slice ga gn gc) css ∧ FrFls W W0.heap.size css fs ∧ W0.grownBy W (some B)
/-- One more: the name cloned, the flaw made, appended, stored. -/
theorem FOut.step {W0 w7 w8 : World} {B : Nat} {fs : List Fl} {ga : Option Addr} {gn gc : Nat} {css : List (List Value)} {k t : Int} {vo : Value} {o : Nm} {a8 : Option Addr} {n8 c8 : Nat}
    (hx : w7.heap[B]? = some (.cells #[.slice ga gn gc] 36)) (hown : OwnC 3 43 w7 W0.heap.size (.slice ga gn gc) css) (hfr : FrFls w7 W0.heap.size css fs) (hg : W0.grownBy w7 (some B)) (hn : OwnG 9 strV w7 W0.heap.size vo o)
    (hown8 : OwnC 3 43 w8 W0.heap.size (.slice a8 n8 c8) (css ++ [[.int .i64 k, vo, .int .i64 t]])) (hg8 : (w7.alloc (.cells #[.int .i64 k, vo, .int .i64 t] 43)).grownBy w8 (Value.slice ga gn gc).ownBlock) :
    FOut W0 B (fs ++ [⟨k, o, t⟩]) (w8.setCell ⟨B, 0, none⟩ (.slice a8 n8 c8)) ∧ w8.heap[B]? = some (.cells #[.slice ga gn gc] 36) := by
  have hbA := (Below.refl w7.heap.size w7).alloc (Nat.le_refl _) (.cells #[.int .i64 k, vo, .int .i64 t] 43)
  have hown7 := OwnK.below hown hbA
  have hx7 := (hbA.block _ (kblock_lt hx)).trans hx
  have hx8 : w8.heap[B]? = some (.cells #[.slice ga gn gc] 36) := (hg8.block B (kblock_lt hx7) (fun e => OwnK.ne_block hown7 hx7 (by decide) e)).trans hx7
  have hfr8 : FrFls w8 W0.heap.size (css ++ [[.int .i64 k, vo, .int .i64 t]]) (fs ++ [⟨k, o, t⟩]) := by
    refine FrFls.snoc ⟨hfr.1, fun i a b => ((hfr.2 i a b).below hbA).kept_c hown7 (by decide) hg8⟩ ?_
    exact ⟨vo, rfl, (hn.below hbA).kept_c hown7 (by decide) hg8⟩
  refine ⟨⟨a8, n8, c8, _, kset hx8 0 _, OwnK.keptB hown8 hx8 (by decide) 0 _, ⟨hfr8.1, fun i a b => (hfr8.2 i a b).keptB hx8 (by decide) 0 _⟩, ?_⟩, hx8⟩
  exact kg_trans (kg_far (kg_belowA hg hbA) hg8 (fun q e => .inl (OwnK.base_le hown q e))) (grownBy_set w8 B 0 _)
def ClP (W0 : World) (B : Nat) (fs : List Fl) (ga : Option Addr) (gn gc : Nat) (css : List (List Value)) (o : Nm) (n : Nat) (W : World) (e : Ending) (w7 : World) : Prop :=
  ∃ a c, e = .returned (.slice a n c) ∧ OwnG 9 strV w7 W0.heap.size (.slice a n c) o ∧ w7.heap[B]? = some (.cells #[.slice ga gn gc] 36) ∧ OwnC 3 43 w7 W0.heap.size (.slice ga gn gc) css ∧ FrFls w7 W0.heap.size css fs ∧ W0.grownBy w7 (some B) ∧ Below W.heap.size W w7
theorem clone_out {W0 W : World} {B : Nat} {fs : List Fl} {ga : Option Addr} {gn gc : Nat} {css : List (List Value)} {v : Value} {o : Nm} {n : Nat} (hn : o.length = n) (hx : W.heap[B]? = some (.cells #[.slice ga gn gc] 36)) (hown : OwnC 3 43 W W0.heap.size (.slice ga gn gc) css) (hfr : FrFls W W0.heap.size css fs) (hg : W0.grownBy W (some B)) (hO : NmAt W v o) (hko : NmOK o) :
    Calls Try.prog 21 #[v] W (ClP W0 B fs ga gn gc css o n W) := by
  refine (clone_Name v o W hO.1 hO.2 (by have := hko.1; omega)).mono ?_
  rintro e w7 ⟨v7, rfl, ho7, hb7⟩
  obtain ⟨a7, c7, rfl⟩ := ho7.shape
  subst hn
  exact ⟨a7, c7, rfl, ho7.weaken hg.size, (hb7.block _ (kblock_lt hx)).trans hx, OwnK.below hown hb7, ⟨hfr.1, fun i a b => (hfr.2 i a b).below hb7⟩, kg_belowA hg hb7, hb7⟩
set_option maxRecDepth 100000 in
set_option maxHeartbeats 8000000 in
theorem atO_flaw {W0 W : World} {B bz : Nat} {fs : List Fl} {za : Option Addr} {zn zc : Nat} {zr : Value} {o : Nm} (k t : Int) (h : FOut W0 B fs W) (hz : W.heap[bz]? = some (.cells #[.slice za zn zc, zr] 39)) (hO : NmAt W (.slice za zn zc) o) (hko : NmOK o) (hl : fs.length ≤ 10000000) :
    Calls Try.prog 34 #[.int .i64 k, .int .i64 t, .pointer (some ⟨B, 0, none⟩), .pointer (some ⟨bz, 0, none⟩)] W fun e W' => e = .returned (.tuple #[]) ∧ FOut W0 B (fs ++ [⟨k, o, t⟩]) W' := by
  obtain ⟨ga, gn, gc, css, hx, hown, hfr, hg⟩ := h
  obtain ⟨no, hno⟩ : ∃ n, o.length = n := ⟨_, rfl⟩
  have hneB : bz ≠ B := by
    rintro rfl
    rw [hx] at hz
    injection hz with hz
    injection hz with _ hz
    exact absurd hz (by decide)
  have HC := Lib.hid (clone_out (W0 := W0) (B := B) (fs := fs) (W := W.drew) (v := .slice za zn zc) (css := css) hno hx (OwnK.below hown (kdrew (Below.refl _ W))) ⟨hfr.1, fun i a b => (hfr.2 i a b).below (kdrew (Below.refl _ W))⟩ (kg_belowA hg (kdrew (Below.refl _ W))) (hO.below (kdrew (Below.refl _ W))) hko)
  have hcl : css.length ≤ 10000000 := by rw [hfr.1]; exact hl
  have HZB : Hid (W.drew.heap[bz]? = some (.cells #[.slice za zn zc, zr] 39)) := Lib.hid hz
  have c0 := kcell hx 0 (.slice ga gn gc) rfl
  have hS0 : W.drew.cell? ⟨bz, 0, none⟩ = some (.slice za zn zc) := kcell hz 0 _ rfl
  have hS00 : W.cell? ⟨bz, 0, none⟩ = some (.slice za zn zc) := kcell hz 0 _ rfl
  have KA := Lib.hid (fun (X : World) (ob : Obj) (h : X.cell? ⟨bz, 0, none⟩ = some (.slice za zn zc)) => (show (X.alloc ob).cell? ⟨bz, 0, none⟩ = some (.slice za zn zc) from (World.cell?_alloc_lt X ob ⟨bz, 0, none⟩ (World.block_lt_of_cell? X _ h)).trans h))
  have KS := Lib.hid (fun (X X' : World) (h : X.cell? ⟨bz, 0, none⟩ = some (.slice za zn zc)) (hb : Below X.heap.size X X') => (show X'.cell? ⟨bz, 0, none⟩ = some (.slice za zn zc) from (hb.cell (World.block_lt_of_cell? X _ h)).trans h))
  have KP := Lib.hid (fun (X : World) (u : Value) (h : X.cell? ⟨bz, 0, none⟩ = some (.slice za zn zc)) => (show (X.setCell ⟨B, 0, none⟩ u).cell? ⟨bz, 0, none⟩ = some (.slice za zn zc) from (World.cell?_setCell_far X ⟨B, 0, none⟩ ⟨bz, 0, none⟩ u (fun e => hneB e.symm)).trans h))
  have KG := Lib.hid (fun (X X' : World) (hb : X.heap[bz]? = some (.cells #[.slice za zn zc, zr] 39)) (hg' : X.grownBy X' (Value.slice ga gn gc).ownBlock) (hO' : OwnC 3 43 X W0.heap.size (.slice ga gn gc) css) => (show X'.cell? ⟨bz, 0, none⟩ = some (.slice za zn zc) from kcell ((hg'.block bz (kblock_lt hb) (fun e => OwnK.ne_block hO' hb (by decide) e)).trans hb) 0 _ rfl))
  have HLN := Lib.hid hcl
  clear hz hown hfr hg hO hko hl hcl hno hneB hx
  go_enter Try.func34, Try.ntmps34
  go_region_law
    (first
      | (go_simp; (with_reducible refine (HC.out).mono ?_); rintro e w7 ⟨ya, yc, rfl, hn7, hx7, hown7, hfr7, hg7, hb7⟩; have hS7 := KS.out _ _ hS0 hb7; have c7 := kcell hx7 0 (.slice ga gn gc) rfl; have hbA := (Below.refl w7.heap.size w7).alloc (Nat.le_refl _) (.cells #[.int .i64 k, .slice ya no yc, .int .i64 t] 43); have c7A := kcell ((hbA.block B (kblock_lt hx7)).trans hx7) 0 (.slice ga gn gc) rfl; have hownA := OwnK.below hown7 hbA; have hsA : W0.heap.size ≤ (w7.alloc (.cells #[.int .i64 k, .slice ya no yc, .int .i64 t] 43)).heap.size := Nat.le_trans hg7.size hbA.size; have hsl : SlK (w7.alloc (.cells #[.int .i64 k, .slice ya no yc, .int .i64 t] 43)) (.slice (some ⟨w7.heap.size, 0, none⟩) 1 1) [[.int .i64 k, .slice ya no yc, .int .i64 t]] := slK_blk (css := [[.int .i64 k, .slice ya no yc, .int .i64 t]]) (knew w7 _); have HP := Lib.hid (fun (ops : Array Oper) (o : Oper) (a : Act) (K : Act → World → Prop) (Q : Exit → Act → World → Prop) (E : Prop) (h1 : o.guard = none) (h2 : o.op = .call { callee := .builtin .append, args := #[.tmp 6, .tmp 13], argTypes := #[36, 36] }) (h3 : a.eval (.tmp 6) = .slice ga gn gc) (h4 : a.eval (.tmp 13) = .slice (some ⟨w7.heap.size, 0, none⟩) 1 1) h => step_append_slk (ops := ops) (a := a) (K := K) (Q := Q) (E := E) (w7.alloc (.cells #[.int .i64 k, .slice ya no yc, .int .i64 t] 43)) h1 (.tmp 6) (.tmp 13) elem_fl (by decide) h2 W0.heap.size _ css h3 hownA _ _ h4 hsl (flC_len _ _ _ _ _) (flC_one _ _ _ _ _) hsA (by have := HLN.out; unfold maxLen; simp only [List.length_cons, List.length_nil]; omega) (by have := HLN.out; simp only [List.length_cons, List.length_nil]; omega) h); have hzA := Lib.hid (((Below.refl w7.heap.size w7).alloc (Nat.le_refl _) (.cells #[.int .i64 k, .slice ya no yc, .int .i64 t] 43)).block bz (Nat.lt_of_lt_of_le (kblock_lt HZB.out) hb7.size) |>.trans ((hb7.block bz (kblock_lt HZB.out)).trans HZB.out)); have H7 := Lib.hid (And.intro hn7 (And.intro hx7 (And.intro hown7 (And.intro hfr7 hg7)))); clear hn7 hx7 hown7 hfr7 hg7 hb7 hbA hownA hsA hsl)
      | ((with_reducible refine HP.out _ _ _ _ _ _ ?_ ?_ ?_ ?_ ?_); exact rfl; exact rfl; exact rfl; exact rfl; intro v8 w8 ho8 hg8; obtain ⟨a8, c8, e8⟩ := OwnK.shape ho8; generalize List.length (css ++ _) = n8 at e8; subst e8; obtain ⟨p1, p2, p3, p4, p5⟩ := H7.out; have hfin := FOut.step p2 p3 p4 p5 p1 ho8 hg8; have hS8 := KG.out _ _ hzA.out hg8 (OwnK.below p3 ((Below.refl w7.heap.size w7).alloc (Nat.le_refl _) (.cells #[.int .i64 k, .slice ya no yc, .int .i64 t] 43))); have c8' := kcell hfin.2 0 (.slice ga gn gc) rfl; have f8 := kfrozen hfin.2 0; have HF := Lib.hid hfin.1; clear p1 p2 p3 p4 p5 hfin ho8 hg8 HP H7))
  all_goals
    go_end0
    exact ⟨rfl, HF.out⟩
end Go.Proofs.Ytckammgnmgkieaa

/-
  check.atOrigin.
-/
namespace Go.Proofs.Ytckammgnmgkieaa
set_option maxRecDepth 20000
open Go.RowKit Go.Shelf
set_option maxRecDepth 20000
set_option linter.unusedVariables false
set_option linter.unusedSimpArgs false
def AtPost (w : World) (fs : List Fl) (e : Ending) (w' : World) : Prop := ∃ (ga : Option Addr) (gn gc : Nat) (css : List (List Value)), e = .returned (.slice ga gn gc) ∧ OwnC 3 43 w' w.heap.size (.slice ga gn gc) css ∧ FrFls w' w.heap.size css fs ∧ Below w.heap.size w w'
theorem FOut.below {W0 W W' : World} {B : Nat} {fs : List Fl} (h : FOut W0 B fs W) (hb : Below W.heap.size W W') : FOut W0 B fs W' := by
  obtain ⟨ga, gn, gc, css, h1, h2, h3, h4⟩ := h
  exact ⟨ga, gn, gc, css, (hb.block B (kblock_lt h1)).trans h1, OwnK.below h2 hb, ⟨h3.1, fun i a b => (h3.2 i a b).below hb⟩, kg_belowA h4 hb⟩
/-- What rset.Of finds: its cells, how many data it has. -/
def OfN (W : World) (r : Option St) (e : Ending) (w' : World) : Prop := ∃ (x0 x3 : Option Addr × Nat × Nat) (y t : Int), e = .returned (.tuple #[.agg #[.slice x0.1 x0.2.1 x0.2.2, .int .i64 y, .int .u32 t, .slice x3.1 ((r.getD ⟨[], 0, 0, []⟩).data.length) x3.2.2], .bool r.isSome]) ∧ Below W.heap.size W w'
theorem ofN {W w' : World} {r : Option St} {e : Ending} (h : OfPost W r e w') : OfN W r e w' := by
  obtain ⟨cs, rfl, h1, h2⟩ := h
  obtain ⟨x0, x3, rfl⟩ := h1.shape
  exact ⟨x0, x3, _, _, rfl, h2⟩
set_option maxRecDepth 100000 in
set_option maxHeartbeats 8000000 in
theorem check_atOrigin {w : World} {za : Option Addr} {zn zc : Nat} {v1 : Option Addr} {m c : Nat} {o : Nm} {rs : List Rc} (hZ : ZonS w za zn zc v1 m c o rs) :
    Calls Try.prog 17 #[.agg #[.slice za zn zc, .slice v1 m c]] w (AtPost w (at0M o rs)) := by
  obtain ⟨hzo, hzk, ⟨css, hA, hR⟩, hOK, hm20⟩ := id hZ
  have HOF := Lib.hid (fun (t : Int) W (hb : Below w.heap.size w W) => (rset_Of v1 m c (.slice za zn zc) o t css rs W (hA.below hb) (hR.below hb) hOK (hzo.below hb) hzk hm20).mono fun _ _ h => ofN h)
  have HZW := Lib.hid (fun W (hb : Below w.heap.size w W) => hzo.below hb)
  obtain ⟨r6, hr6⟩ : ∃ r, ofM rs o 6 = r := ⟨_, rfl⟩
  obtain ⟨r2, hr2⟩ : ∃ r, ofM rs o 2 = r := ⟨_, rfl⟩
  have hof6 := HOF.out 6
  have hof2 := HOF.out 2
  rw [hr6] at hof6
  rw [hr2] at hof2
  have HF6 := Lib.hid hof6; have HF2 := Lib.hid hof2; have HZK := Lib.hid hzk
  obtain ⟨f1, hf1⟩ : ∃ f, (match r6 with | none => [⟨1, o, 6⟩] | some s => if 1 < s.data.length then [⟨2, o, 6⟩] else [] : List Fl) = f := ⟨_, rfl⟩
  obtain ⟨f2, hf2⟩ : ∃ f, (match r2 with | none => [⟨3, o, 2⟩] | some _ => [] : List Fl) = f := ⟨_, rfl⟩
  have HAT : Hid (at0M o rs = f1 ++ f2) := Lib.hid (by unfold at0M; rw [hr6, hr2, ← hf1, ← hf2]; cases r6 <;> cases r2 <;> rfl)
  generalize at0M o rs = res at *
  have HF1 := Lib.hid hf1; have HFF2 := Lib.hid hf2
  clear hZ hzo hzk hA hR hOK hof6 hof2 hr6 hr2 hf1 hf2 HOF
  obtain ⟨W0, hW0⟩ : ∃ W0, (w.alloc (.cells #[.slice za zn zc, .slice v1 m c] 39)).alloc (.cells #[.slice none 0 0] 36) = W0 := ⟨_, rfl⟩
  have hB0 : Below w.heap.size w W0 := by rw [← hW0]; exact ((Below.refl w.heap.size w).alloc (Nat.le_refl _) _).alloc (by simp) _
  have x0 : W0.heap[w.heap.size]? = some (.cells #[.slice za zn zc, .slice v1 m c] 39) := by
    rw [← hW0]; exact (Below.heap_alloc _ _ _ (by simp)).trans (knew w _)
  have x1 : W0.heap[w.heap.size + 1]? = some (.cells #[.slice none 0 0] 36) := by
    have h := knew (w.alloc (.cells #[.slice za zn zc, .slice v1 m c] 39)) (.cells #[.slice none 0 0] 36)
    rw [World.size_alloc] at h
    rw [← hW0]; exact h
  have HO0 : Hid (FOut W0 (w.heap.size + 1) [] W0) := Lib.hid ⟨none, 0, 0, [], x1, OwnK.nil _ _, ⟨rfl, fun i a => absurd a (by simp)⟩, kg_refl _ _⟩
  -- what a world that has grown by the flaws alone has
  have HWK := Lib.hid (fun W' (hg : W0.grownBy W' (some (w.heap.size + 1))) => (show W'.heap[w.heap.size]? = some (.cells #[.slice za zn zc, .slice v1 m c] 39) ∧ Below w.heap.size w W' from ⟨(hg.block _ (kblock_lt x0) (fun e => by injection e; omega)).trans x0, hB0.trans (kg_to hg (by omega) hB0.size)⟩))
  have HCL := Lib.hid (fun (k t : Int) (fs : List Fl) W' (h : FOut W0 (w.heap.size + 1) fs W') (hl : fs.length ≤ 10000000) => (by
    have hg : W0.grownBy W' (some (w.heap.size + 1)) := by obtain ⟨_, _, _, _, _, _, _, h4⟩ := h; exact h4
    obtain ⟨q1, q2⟩ := HWK.out W' hg
    exact atO_flaw k t h q1 (HZW.out W' q2) HZK.out hl : Calls Try.prog 34 #[.int .i64 k, .int .i64 t, .pointer (some ⟨w.heap.size + 1, 0, none⟩), .pointer (some ⟨w.heap.size, 0, none⟩)] W' fun e W'' => e = .returned (.tuple #[]) ∧ FOut W0 (w.heap.size + 1) (fs ++ [⟨k, o, t⟩]) W''))
  have HGR := Lib.hid (fun (fs : List Fl) W' (h : FOut W0 (w.heap.size + 1) fs W') => (show W0.grownBy W' (some (w.heap.size + 1)) from by obtain ⟨_, _, _, _, _, _, _, h4⟩ := h; exact h4))
  have y0 := kcell x0 0 (.slice za zn zc) rfl; have y1 := kcell x0 1 (.slice v1 m c) rfl
  have hc := HF6.out W0 hB0
  have HSB := Lib.hid hB0.size
  clear x0 x1 hB0
  go_enter Try.func17, Try.ntmps17
  go_wp2_with fail
  clear hW0
  refine hc.mono ?_
  rintro e w1 ⟨z0, z3, zy, zt, rfl, hb1⟩
  clear hc y0 y1
  obtain ⟨p0, p1, p2⟩ := z0; obtain ⟨q0, q1, q2⟩ := z3
  simp only
  go_upto_block 0 with fail
  go_cut [] (fun wx => Hid (FOut W0 (w.heap.size + 1) f1 wx))
  case first =>
    have hf0 : FOut W0 (w.heap.size + 1) [] (w1.alloc (.cells #[.slice p0 p1 p2, .int .i64 zy, .int .u32 zt, .slice q0 ((r6.getD ⟨[], 0, 0, []⟩).data.length) q2] 64)) := (HO0.out.below hb1).below ((Below.refl _ w1).alloc (Nat.le_refl _) _)
    cases r6 with
    | none =>
      have hc := HCL.out 1 6 [] _ hf0 (by simp)
      simp only [Option.getD_none, List.length_nil, Option.isSome_none] at hc ⊢
      clear hf0 hb1
      go_wp2_with fail
      refine hc.mono ?_
      rintro e w3 ⟨rfl, hf3⟩
      have H3 := Lib.hid hf3
      clear hc hf3
      go_wp2_with fail
      go_meet
      exact Lib.hid (by rw [← HF1.out]; exact H3.out)
    | some s =>
      by_cases hq : 1 < s.data.length
      · have hc := HCL.out 2 6 [] _ hf0 (by simp)
        simp only [Option.getD_some, Option.isSome_some] at hc ⊢
        have HE : Hid (f1 = [⟨2, o, 6⟩]) := Lib.hid (by rw [← HF1.out]; simp [hq])
        have hqz : (1 : Int) < (s.data.length : Int) := by omega
        generalize s.data.length = dn at *
        clear hf0 hb1 hq HF1
        go_wp2_with fail
        refine hc.mono ?_
        rintro e w3 ⟨rfl, hf3⟩
        have H3 := Lib.hid hf3
        clear hc hf3
        go_wp2_with fail
        go_meet
        exact Lib.hid (by rw [HE.out]; exact H3.out)
      · have HE : Hid (f1 = []) := Lib.hid (by rw [← HF1.out]; simp [hq])
        have hqz : ¬ (1 : Int) < (s.data.length : Int) := by omega
        simp only [Option.getD_some, Option.isSome_some] at hf0 ⊢
        have HF0 := Lib.hid hf0
        generalize s.data.length = dn at *
        clear hf0 hb1 hq HF1
        go_wp2_with fail
        go_meet
        exact Lib.hid (by rw [HE.out]; exact HF0.out)
  case rest =>
  rename World => W2
  have HL1 : Hid (f1.length ≤ 1) := Lib.hid (by
    rw [← HF1.out]
    cases r6 with
    | none => simp
    | some s => simp only; split <;> simp)
  have HC2 := hcut
  obtain ⟨g1, g2⟩ := HWK.out W2 (HGR.out f1 W2 HC2.out)
  have y0 := kcell g1 0 (.slice za zn zc) rfl; have y1 := kcell g1 1 (.slice v1 m c) rfl
  have hc := HF2.out W2 g2
  clear g1 g2 hcut HF1 HF2 HF6
  go_wp2_with fail
  refine hc.mono ?_
  rintro e w3 ⟨z0, z3, zy2, zt2, rfl, hb3⟩
  have H3 := Lib.hid (HC2.out.below hb3)
  clear hc y0 y1 hb3 HC2
  obtain ⟨p0', p1', p2'⟩ := z0; obtain ⟨q0', q1', q2'⟩ := z3
  simp only
  go_upto_if 39 with (fail)
  go_cut [] (fun wx => Hid (FOut W0 (w.heap.size + 1) (f1 ++ f2) wx))
  case first =>
    have hf0 := H3.out.below ((Below.refl _ w3).alloc (Nat.le_refl _) (.cells #[.slice p0' p1' p2', .int .i64 zy2, .int .u32 zt2, .slice q0' ((r2.getD ⟨[], 0, 0, []⟩).data.length) q2'] 64))
    cases r2 with
    | none =>
      have hc := HCL.out 3 2 f1 _ hf0 (by have := HL1.out; omega)
      simp only [Option.getD_none, List.length_nil, Option.isSome_none] at hc ⊢
      clear hf0
      go_wp2_with fail
      refine hc.mono ?_
      rintro e w4 ⟨rfl, hf3⟩
      have H4 := Lib.hid hf3
      clear hc hf3
      go_wp2_with fail
      go_meet
      exact Lib.hid (by rw [← HFF2.out]; exact H4.out)
    | some s =>
      simp only [Option.getD_some, Option.isSome_some] at hf0 ⊢
      have HF0 := Lib.hid hf0
      generalize s.data.length = dn at *
      clear hf0
      go_wp2_with fail
      go_meet
      exact Lib.hid (by rw [← HFF2.out, List.append_nil]; exact HF0.out)
  case rest =>
  rename World => W5
  obtain ⟨ga, gn, gc, css, k1, k2, k3, k4⟩ := hcut.out
  have c0 := kcell k1 0 (.slice ga gn gc) rfl
  have hww := (HWK.out W5 k4).2
  have hsb := HSB.out
  have HFIN : Hid (AtPost w (f1 ++ f2) (.returned (.slice ga gn gc)) W5) := Lib.hid ⟨ga, gn, gc, css, rfl, OwnK.weaken k2 hsb, ⟨k3.1, fun i a b => (k3.2 i a b).weaken hsb⟩, hww⟩
  clear k1 k2 k3 k4 hww hcut hsb H3
  go_wp2
  go_ret
  rw [HAT.out]
  exact HFIN.out
end Go.Proofs.Ytckammgnmgkieaa

/-
  check.Zone: the flaws told so far, beside a zone's view.
-/
namespace Go.Proofs.Ytckammgnmgkieaa
set_option maxRecDepth 20000
open Go.RowKit Go.Shelf
set_option maxRecDepth 20000
set_option linter.unusedVariables false
set_option linter.unusedSimpArgs false
/-- What lies ahead of n0, or from n1 on, lies as in W3. -/
def KpZ (n0 n1 : Nat) (W3 W : World) : Prop := W.os = W3.os ∧ W.tape = W3.tape ∧ W.output = W3.output ∧ W3.heap.size ≤ W.heap.size ∧ ∀ i, i < W3.heap.size → (i < n0 ∨ n1 ≤ i) → W.heap[i]? = W3.heap[i]?
theorem KpZ.refl (n0 n1 : Nat) (W : World) : KpZ n0 n1 W W := ⟨rfl, rfl, rfl, Nat.le_refl _, fun _ _ _ => rfl⟩
theorem KpZ.grown {n0 n1 : Nat} {W3 W W' : World} {row : Option Nat} (h : KpZ n0 n1 W3 W) (hg : W.grownBy W' row) (hr : ∀ k, row = some k → n0 ≤ k ∧ (k < n1 ∨ W3.heap.size ≤ k)) : KpZ n0 n1 W3 W' := by
  obtain ⟨h1, h2, h3, h4, h5⟩ := h
  refine ⟨hg.os.trans h1, hg.tape.trans h2, hg.output.trans h3, Nat.le_trans h4 hg.size, fun i hi hp => (hg.block i (Nat.lt_of_lt_of_le hi h4) (fun e => ?_)).trans (h5 i hi hp)⟩
  have := hr i e.symm
  omega
theorem KpZ.below {n0 n1 : Nat} {W3 W W' : World} (h : KpZ n0 n1 W3 W) (hb : Below W.heap.size W W') : KpZ n0 n1 W3 W' := h.grown (row := none) ⟨hb.os, hb.tape, hb.output, hb.size, fun i hi _ => hb.block i hi⟩ (fun k e => by cases e)
theorem KpZ.to {n n0 n1 : Nat} {a W3 W : World} (h : KpZ n0 n1 W3 W) (hb : Below n a W3) (hn : n ≤ n0) (ha : n ≤ a.heap.size) : Below n a W :=
  hb.trans ⟨h.1, h.2.1, h.2.2.1, h.2.2.2.1, fun i hi => h.2.2.2.2 i (Nat.lt_of_lt_of_le hi (Nat.le_trans ha hb.size)) (.inl (by omega))⟩
/-- The flaws told so far. -/
def FZ (n0 n1 : Nat) (W3 : World) (B : Nat) (fs : List Fl) (W : World) : Prop := ∃ (ga : Option Addr) (gn gc : Nat) (css : List (List Value)), W.heap[B]? = some (.cells #[.slice ga gn gc] 36) ∧ OwnC 3 43 W n0 (.slice ga gn gc) css ∧ FrFls W n0 css fs ∧ (∀ g, (Value.slice ga gn gc).ownBlock = some g → n0 ≤ g ∧ (g < n1 ∨ W3.heap.size ≤ g)) ∧ KpZ n0 n1 W3 W
theorem FZ.below {n0 n1 : Nat} {W3 : World} {B : Nat} {fs : List Fl} {W W' : World} (h : FZ n0 n1 W3 B fs W) (hb : Below W.heap.size W W') : FZ n0 n1 W3 B fs W' := by
  obtain ⟨ga, gn, gc, css, h1, h2, h3, h4, h5⟩ := h
  exact ⟨ga, gn, gc, css, (hb.block B (kblock_lt h1)).trans h1, OwnK.below h2 hb, ⟨h3.1, fun i a b => (h3.2 i a b).below hb⟩, h4, h5.below hb⟩
theorem fz_own {n0 n1 : Nat} {W3 : World} {B : Nat} {α : Type} {f : List α → List Fl} (hB : B < W3.heap.size) (h0 : n0 ≤ W3.heap.size) : OwnFrom W3.heap.size (fun pre W => FZ n0 n1 W3 B (f pre) W) := by
  rintro pre W W' row ⟨ga, gn, gc, css, h1, h2, h3, h4, h5⟩ hg hr
  have hr2 : ∀ r, row = some r → ∃ o : Obj, W.heap[r]? = some o ∧ o.isCells = false := fun r e => (hr r e).2
  exact ⟨ga, gn, gc, css, (hg.block B (kblock_lt h1) (fun e => by have := (hr B e.symm).1; omega)).trans h1, OwnC.keptO h2 hg hr2, ⟨h3.1, fun i a b => (h3.2 i a b).keptO hg hr2⟩, h4, h5.grown hg (fun k e => by have := (hr k e).1; omega)⟩
/-- One more: the name cloned, the flaw made, appended, stored. -/
theorem FZ.step {n0 n1 : Nat} {W3 w7 w8 : World} {B : Nat} {fs : List Fl} {ga : Option Addr} {gn gc : Nat} {css : List (List Value)} {k t : Int} {vo : Value} {o : Nm} {g8 n8 c8 : Nat} (hB : n0 ≤ B ∧ B < n1)
    (hx : w7.heap[B]? = some (.cells #[.slice ga gn gc] 36)) (hown : OwnC 3 43 w7 n0 (.slice ga gn gc) css) (hfr : FrFls w7 n0 css fs) (hloc : ∀ g, (Value.slice ga gn gc).ownBlock = some g → n0 ≤ g ∧ (g < n1 ∨ W3.heap.size ≤ g)) (hkp : KpZ n0 n1 W3 w7) (hn : OwnG 9 strV w7 n0 vo o)
    (hown8 : OwnC 3 43 w8 n0 (.slice (some ⟨g8, 0, none⟩) n8 c8) (css ++ [[.int .i64 k, vo, .int .i64 t]])) (hg8 : (w7.alloc (.cells #[.int .i64 k, vo, .int .i64 t] 43)).grownBy w8 (Value.slice ga gn gc).ownBlock) (hl8 : (Value.slice ga gn gc).ownBlock = some g8 ∨ g8 = w7.heap.size + 1) :
    FZ n0 n1 W3 B (fs ++ [⟨k, o, t⟩]) (w8.setCell ⟨B, 0, none⟩ (.slice (some ⟨g8, 0, none⟩) n8 c8)) ∧ w8.heap[B]? = some (.cells #[.slice ga gn gc] 36) ∧ ∀ (B6 : Nat) (xs : Array Value) (T : TypeId), T ≠ 43 → B6 ≠ B → w7.heap[B6]? = some (.cells xs T) → (w8.setCell ⟨B, 0, none⟩ (.slice (some ⟨g8, 0, none⟩) n8 c8)).heap[B6]? = some (.cells xs T) := by
  have hbA := (Below.refl w7.heap.size w7).alloc (Nat.le_refl _) (.cells #[.int .i64 k, vo, .int .i64 t] 43)
  have hown7 := OwnK.below hown hbA
  have hx7 := (hbA.block _ (kblock_lt hx)).trans hx
  have hx8 : w8.heap[B]? = some (.cells #[.slice ga gn gc] 36) := (hg8.block B (kblock_lt hx7) (fun e => OwnK.ne_block hown7 hx7 (by decide) e)).trans hx7
  have hfr8 : FrFls w8 n0 (css ++ [[.int .i64 k, vo, .int .i64 t]]) (fs ++ [⟨k, o, t⟩]) := by
    refine FrFls.snoc ⟨hfr.1, fun i a b => ((hfr.2 i a b).below hbA).kept_c hown7 (by decide) hg8⟩ ?_
    exact ⟨vo, rfl, (hn.below hbA).kept_c hown7 (by decide) hg8⟩
  refine ⟨⟨some ⟨g8, 0, none⟩, n8, c8, _, kset hx8 0 _, OwnK.keptB hown8 hx8 (by decide) 0 _, ⟨hfr8.1, fun i a b => (hfr8.2 i a b).keptB hx8 (by decide) 0 _⟩, ?_, ?_⟩, hx8, ?_⟩
  · intro g e
    simp only [Value.ownBlock, Option.some.injEq] at e
    subst e
    rcases hl8 with h | h
    · exact hloc _ h
    · have h4 := hkp.2.2.2.1
      have h5 := OwnK.base_le hown8 g8 rfl
      exact ⟨h5, .inr (by omega)⟩
  · exact ((hkp.below hbA).grown hg8 (fun q e => hloc q e)).grown (grownBy_set w8 B 0 _) (fun q e => by cases e; exact ⟨hB.1, .inl hB.2⟩)
  · intro B6 xs T hT hne h6
    have h67 := (hbA.block _ (kblock_lt h6)).trans h6
    have h68 : w8.heap[B6]? = some (.cells xs T) := (hg8.block B6 (kblock_lt h67) (fun e => OwnK.ne_block hown7 h67 hT e)).trans h67
    exact ((grownBy_set w8 B 0 _).block B6 (kblock_lt h68) (fun e => hne (by injection e))).trans h68
/-- append of one flaw in a drawn region: where the row lies behind it. -/
theorem step_append_fl {ops : Array Oper} {o : Oper} {a : Act} {K : Act → World → Prop} {Q : Exit → Act → World → Prop} {E : Prop} (w7 : World) (kd tx : Int) (ya : Option Addr) (no yc n0 : Nat) (fa : Option Addr) (fn fc : Nat) (css : List (List Value)) (hown : OwnC 3 43 (w7.alloc (.cells #[.int .i64 kd, .slice ya no yc, .int .i64 tx] 43)) n0 (.slice fa fn fc) css) (hn0 : n0 ≤ w7.heap.size) (hl : css.length ≤ 10000000)
    (h1 : o.guard = none) (s x : Operand) (h2 : o.op = .call { callee := .builtin .append, args := #[s, x], argTypes := #[36, 36] }) (h3 : a.eval s = .slice fa fn fc) (h4 : a.eval x = .slice (some ⟨w7.heap.size, 0, none⟩) 1 1)
    (h : ∀ (g8 n8 c8 : Nat) (w8 : World), OwnC 3 43 w8 n0 (.slice (some ⟨g8, 0, none⟩) n8 c8) (css ++ [[.int .i64 kd, .slice ya no yc, .int .i64 tx]]) → (w7.alloc (.cells #[.int .i64 kd, .slice ya no yc, .int .i64 tx] 43)).grownBy w8 (Value.slice fa fn fc).ownBlock → ((Value.slice fa fn fc).ownBlock = some g8 ∨ g8 = w7.heap.size + 1) → K (a.put o.dst (.slice (some ⟨g8, 0, none⟩) n8 c8)) w8) :
    if Region.wanted o (yielded ops a.tmps) = true then Oper.wp Try.prog o a (w7.alloc (.cells #[.int .i64 kd, .slice ya no yc, .int .i64 tx] 43)) K Q else E := by
  obtain ⟨ht, i, z, hi, hz, hz1, hz2, hzc⟩ := elem_fl
  refine step_append_lies _ h1 s x _ h2 n0 43 i z 3 40 ht hi hz hz1 hz2 hzc (by decide) (.slice fa fn fc) css.length (css.flatMap fun cs => cs) h3 hown ⟨w7.heap.size, 0, none⟩ 1 1 [.int .i64 kd, .slice ya no yc, .int .i64 tx] h4 rfl (World.news_of_block (cs := #[.int .i64 kd, .slice ya no yc, .int .i64 tx]) (t := 43) (fr := (0, 0)) (knew w7 _)) (flC_one _ _ _ _ _ _ (List.mem_singleton.2 rfl)) (by decide) (by unfold maxLen; omega) (by omega) (by rw [World.size_alloc]; omega) (w7.heap.size + 1) (World.size_alloc _ _) ?_
  intro g cap w' q1 q2 q3 q4
  refine h g _ cap w' ?_ q2 q3
  unfold OwnC OwnK
  rw [List.length_append, List.flatMap_append]
  exact q1
theorem rowS_hit {W : World} {b off k c : Nat} {a : Option Addr} {ss : List St} (h0 : 0 < ss.length) (ha : a = some ⟨b, off, none⟩) (hb : b < W.heap.size) (h : RowS (W.putObj b (.deferred none)) (.slice a k c) ss) : False := by
  obtain ⟨b', off', e, hb', hel⟩ := h.elem h0
  rw [ha] at e
  injection e with e
  injection e with e1 e2 _
  subst e1; subst e2
  obtain ⟨x0, x3, _, hc⟩ := hel 0 h0
  have h1 : (W.putObj b (.deferred none)).heap[b]? = some (.deferred none) := World.putObj_heap_same hb
  have h2 := (hc _ (Below.refl _ _)).1
  simp only [World.cell?, h1] at h2
  cases h2
theorem cell_putO {W : World} {D : Nat} {x : Option (List Deferred)} {o' : Obj} {p : Addr} {u : Value} (hD : W.heap[D]? = some (.deferred x)) (h : W.cell? p = some u) : (W.putObj D o').cell? p = some u := by
  by_cases e : p.block = D
  · exfalso
    subst e
    simp only [World.cell?, hD] at h
    cases h
  · rw [World.cell?_of_block (w := W) (w' := W.putObj D o') (a := p) (World.putObj_heap_other (fun h => e h))]
    exact h
theorem slK_putO {W : World} {D : Nat} {x : Option (List Deferred)} {o' : Obj} {v : Value} {css : List (List Value)} (hD : W.heap[D]? = some (.deferred x)) (h : SlK W v css) : SlK (W.putObj D o') v css := by
  obtain ⟨a, c, e, h1, h2, h3⟩ := h
  refine ⟨a, c, e, h1, h2, ?_⟩
  rcases h3 with h3 | ⟨b, off, ea, hb, hc⟩
  · exact .inl h3
  · exact .inr ⟨b, off, ea, Nat.lt_of_lt_of_le hb (grownBy_putObj' W D o').size, fun j u hj => cell_putO hD (hc j u hj)⟩
theorem slAt_putO {W : World} {D : Nat} {x : Option (List Deferred)} {o' : Obj} {v : Value} {xs : List Value} (hD : W.heap[D]? = some (.deferred x)) (h : SlAt W v xs) : SlAt (W.putObj D o') v xs := by
  obtain ⟨a, c, e, h1, h2, h3⟩ := h
  refine ⟨a, c, e, h1, h2, ?_⟩
  rcases h3 with h3 | ⟨b, off, ea, hb, hc⟩
  · exact .inl h3
  · exact .inr ⟨b, off, ea, Nat.lt_of_lt_of_le hb (grownBy_putObj' W D o').size, fun j hj => cell_putO hD (hc j hj)⟩
theorem fls_putO {W : World} {D : Nat} {x : Option (List Deferred)} {o' : Obj} {css : List (List Value)} {fs : List Fl} (hD : W.heap[D]? = some (.deferred x)) (h : Fls' W css fs) : Fls' (W.putObj D o') css fs := ⟨h.1, fun i a b => by
  obtain ⟨vo, e, h1⟩ := h.2 i a b
  exact ⟨vo, e, nmAt_sl.2 (slAt_putO hD (nmAt_sl.1 h1))⟩⟩
def ClZ (n0 n1 : Nat) (W3 : World) (B : Nat) (fs : List Fl) (ga : Option Addr) (gn gc : Nat) (css : List (List Value)) (o : Nm) (n : Nat) (W : World) (e : Ending) (w7 : World) : Prop :=
  ∃ a c, e = .returned (.slice a n c) ∧ OwnG 9 strV w7 n0 (.slice a n c) o ∧ w7.heap[B]? = some (.cells #[.slice ga gn gc] 36) ∧ OwnC 3 43 w7 n0 (.slice ga gn gc) css ∧ FrFls w7 n0 css fs ∧ KpZ n0 n1 W3 w7 ∧ Below W.heap.size W w7
theorem clone_z {n0 n1 : Nat} {W3 W : World} {B : Nat} {fs : List Fl} {ga : Option Addr} {gn gc : Nat} {css : List (List Value)} {v : Value} {o : Nm} {n : Nat} (h0 : n0 ≤ W.heap.size) (hn : o.length = n) (hx : W.heap[B]? = some (.cells #[.slice ga gn gc] 36)) (hown : OwnC 3 43 W n0 (.slice ga gn gc) css) (hfr : FrFls W n0 css fs) (hg : KpZ n0 n1 W3 W) (hO : NmAt W v o) (hko : NmOK o) :
    Calls Try.prog 21 #[v] W (ClZ n0 n1 W3 B fs ga gn gc css o n W) := by
  refine (clone_Name v o W hO.1 hO.2 (by have := hko.1; omega)).mono ?_
  rintro e w7 ⟨v7, rfl, ho7, hb7⟩
  obtain ⟨a7, c7, rfl⟩ := ho7.shape
  subst hn
  exact ⟨a7, c7, rfl, ho7.weaken h0, (hb7.block _ (kblock_lt hx)).trans hx, OwnK.below hown hb7, ⟨hfr.1, fun i a b => (hfr.2 i a b).below hb7⟩, hg.below hb7, hb7⟩
end Go.Proofs.Ytckammgnmgkieaa

/-
  check.Zone.
-/
namespace Go.Proofs.Ytckammgnmgkieaa
set_option maxRecDepth 20000
open Go.RowKit Go.Shelf
set_option maxRecDepth 20000
set_option linter.unusedVariables false
set_option linter.unusedSimpArgs false
def ZnPost (w : World) (fs0 : List Fl) (e : Ending) (w' : World) : Prop := ∃ v css fs, e = .returned v ∧ SlK w' v css ∧ Fls' w' css fs ∧ fs.Perm fs0 ∧ (fs.Pairwise fun a b => compareF a b ≤ 0) ∧ Below w.heap.size w w'
def fsOf (s : St) (ks : List Int) : List Fl := ks.map fun k => ⟨k, s.owner, s.ty⟩
theorem fsOf_snoc (s : St) (ks : List Int) (k : Int) : fsOf s (ks ++ [k]) = fsOf s ks ++ [⟨k, s.owner, s.ty⟩] := by unfold fsOf; rw [List.map_append]; rfl
theorem finRange_flatMap {β : Type} (ss : List St) (f : St → List β) : (List.finRange ss.length).flatMap (fun x => f ss[x]) = ss.flatMap f := by
  have h : (List.finRange ss.length).map (fun x => ss[x]) = ss := by
    apply List.ext_getElem
    · simp
    · intro i h1 h2
      simp
  have h2 := congrArg (List.flatMap f) h
  rw [List.flatMap_map] at h2
  exact h2
theorem flatMap_len6 {α β : Type} (f : α → List β) (h : ∀ a, (f a).length ≤ 6) : ∀ l : List α, (l.flatMap f).length ≤ l.length * 6
  | [] => by simp
  | y :: r => by
    rw [List.flatMap_cons, List.length_append, List.length_cons]
    have := flatMap_len6 f h r
    have := h y
    omega
section
attribute [local go_sem] Oper.semAt_some
set_option maxRecDepth 100000 in
set_option maxHeartbeats 16000000 in
theorem check_Zone {w : World} {za : Option Addr} {zn zc : Nat} {v1 : Option Addr} {m c : Nat} {o : Nm} {rs : List Rc} (hZ : ZonS w za zn zc v1 m c o rs) (hcan : canonM rs = rs) :
    Calls Try.prog 8 #[.agg #[.slice za zn zc, .slice v1 m c]] w (ZnPost w (allF o rs)) := by
  obtain ⟨ss, hss⟩ : ∃ ss, setsM rs = ss := ⟨_, rfl⟩
  have hzk : NmOK o := hZ.2.1
  have HAT := Lib.hid (fun W (hb : Below w.heap.size w W) => check_atOrigin (hZ.below hb))
  have HNV := Lib.hid (fun W (hb : Below w.heap.size w W) => (by
    have := check_newView hb hZ
    unfold NvPost at this
    rw [hcan, hss] at this
    exact this : Calls Try.prog 18 #[.agg #[.slice za zn zc, .slice v1 m c]] W (fun e w' => ∃ sa sn sc va vn vc ca cn cc, e = .returned (.agg #[.slice sa sn sc, .slice za zn zc, .slice va vn vc, .slice ca cn cc]) ∧ (∀ W', Below w.heap.size w W' → FarKeep W.heap.size w' W' → ViewAt W' sa sn sc za zn zc va vn vc (.slice ca cn cc) o (cutsM rs) ss (coversM o rs ss)) ∧ Below W.heap.size W w')))
  have HALL := Lib.hid (show allF o rs = at0M o rs ++ ss.flatMap fun s => fsOf s (kindsM o rs ss s) from by unfold allF flawsM fsOf; rw [hss])
  have HOKL := Lib.hid (show ∀ f ∈ allF o rs, NmOK f.owner from fun f hf => by
    unfold allF flawsM at hf
    rcases List.mem_append.1 hf with h | h
    · rw [(at0_apart o rs).2.2.2 f h]; exact hzk
    · obtain ⟨s, hs, h⟩ := List.mem_flatMap.1 h
      obtain ⟨k, _, rfl⟩ := List.mem_map.1 h
      exact (sets_ok hZ.2.2.2.1 (by rw [hcan]; exact hs)).1)
  have HSL := Lib.hid (show ss.length ≤ 1048576 by
    have h1 := sets_leL _ rs (Nat.le_refl _)
    obtain ⟨_, _, ⟨css, ⟨_, _, e, _⟩, hR⟩, _, hm⟩ := hZ
    injection e with _ e _
    have h2 := hR.1
    rw [hss] at h1; omega)
  have HKF := Lib.hid (fun s => kinds_few o (whereM o rs s.owner) (otherM ss s) (coverM (coversM o rs ss) s.owner) s)
  have HA2 := Lib.hid (at0_apart o rs).2.2.1
  generalize allF o rs = all at *
  clear hZ hzk
  obtain ⟨W0, hW0⟩ : ∃ W0, w.alloc (.cells #[.slice za zn zc, .slice v1 m c] 39) = W0 := ⟨_, rfl⟩
  have hB0 : Below w.heap.size w W0 := by rw [← hW0]; exact (Below.refl w.heap.size w).alloc (Nat.le_refl _) _
  have x0 : W0.heap[w.heap.size]? = some (.cells #[.slice za zn zc, .slice v1 m c] 39) := by rw [← hW0]; exact knew w _
  have y0 := kcell x0 0 (.slice za zn zc) rfl; have y1 := kcell x0 1 (.slice v1 m c) rfl
  have hc := HAT.out W0 hB0
  have HB0 := Lib.hid hB0; have X0 := Lib.hid x0
  have HP0 := Lib.hid (show 0 < W0.heap.size from Nat.lt_of_le_of_lt (Nat.zero_le _) (kblock_lt x0))
  clear x0 hB0 HAT
  refine (callsIn_wide (n := 8)).1 ?_
  refine callsIn_of_wp_marks Try.func8 rfl trivial ?_ rfl
  simp only [Try.ntmps8, List.size_toArray, List.length_cons, List.length_nil, Nat.reduceAdd, Nat.reduceSub, Array.replicate_succ, Array.replicate_zero, List.push_toArray, List.append_toArray, List.nil_append, List.cons_append]
  refine wpIn_wide.2 ?_
  go_wp2_with fail
  clear hW0
  refine hc.mono ?_
  rintro e w1 ⟨ga, gn, gc, css0, rfl, ho1, hf1, hb1⟩
  obtain ⟨W1, hW1⟩ : ∃ W1, w1.alloc (.cells #[.slice ga gn gc] 36) = W1 := ⟨_, rfl⟩
  have hbA : Below w1.heap.size w1 W1 := by rw [← hW1]; exact (Below.refl w1.heap.size w1).alloc (Nat.le_refl _) _
  have hs1 : W1.heap.size = w1.heap.size + 1 := by rw [← hW1, World.size_alloc]
  have hx1 : W1.heap[w1.heap.size]? = some (.cells #[.slice ga gn gc] 36) := by rw [← hW1]; exact knew w1 _
  have HO1 := Lib.hid (OwnK.below ho1 hbA)
  have HF1 := Lib.hid (show FrFls W1 W0.heap.size css0 (at0M o rs) from ⟨hf1.1, fun i a b => (hf1.2 i a b).below hbA⟩)
  have HG1 := Lib.hid (fun g (e : (Value.slice ga gn gc).ownBlock = some g) => (show W0.heap.size ≤ g ∧ g < W1.heap.size from ⟨OwnK.base_le ho1 g e, by have := OwnK.lt ho1 g e; omega⟩))
  have HB1 := Lib.hid (HB0.out.trans ((hb1.trans (hbA.mono hb1.size)).mono HB0.out.size))
  have hb01 : Below W0.heap.size W0 W1 := hb1.trans (hbA.mono hb1.size)
  have HB01 := Lib.hid hb01
  have x01 := (hb01.block _ (kblock_lt X0.out)).trans X0.out
  have y0' := kcell x01 0 (.slice za zn zc) rfl; have y1' := kcell x01 1 (.slice v1 m c) rfl
  have hc2 := HNV.out W1 HB1.out
  have HX1 := Lib.hid hx1; have HS1 := Lib.hid hs1
  have HL1 := Lib.hid hb1.size
  clear hc y0 y1 ho1 hf1 hb1 hbA hs1 hx1 hb01 x01 HNV X0
  go_wp2_with fail
  clear hW1
  refine hc2.mono ?_
  rintro e w2 ⟨sa, sn, sc, va, vn, vc, ca, cn, cc, rfl, hv2, hb2⟩
  obtain ⟨W2, hW2⟩ : ∃ W2, w2.alloc (.cells #[.slice sa sn sc, .slice za zn zc, .slice va vn vc, .slice ca cn cc] 57) = W2 := ⟨_, rfl⟩
  have hbB : Below w2.heap.size w2 W2 := by rw [← hW2]; exact (Below.refl w2.heap.size w2).alloc (Nat.le_refl _) _
  have hs2 : W2.heap.size = w2.heap.size + 1 := by rw [← hW2, World.size_alloc]
  have hx2 : W2.heap[w2.heap.size]? = some (.cells #[.slice sa sn sc, .slice za zn zc, .slice va vn vc, .slice ca cn cc] 57) := by rw [← hW2]; exact knew w2 _
  have z0 := kcell hx2 0 (.slice sa sn sc) rfl
  have hb12 : Below W1.heap.size W1 W2 := hb2.trans (hbB.mono hb2.size)
  have HB12 := Lib.hid hb12; have HV2 := Lib.hid hv2; have HS2 := Lib.hid hs2; have HX2 := Lib.hid hx2
  have HW2 := Lib.hid (fun g (h : g < w2.heap.size) => hbB.block g h)
  have HL2 := Lib.hid hb2.size
  clear hc2 y0' y1' hv2 hb2 hbB hs2 hx2 hb12
  go_wp2_with fail
  clear hW2
  refine (check_each _ _ rfl).mono ?_
  rintro e w' ⟨rfl, rfl⟩
  clear z0
  obtain ⟨W3, hW3⟩ : ∃ W3, W2.alloc (.cells #[.slice sa sn sc] 55) = W3 := ⟨_, rfl⟩
  have hb3 : Below W2.heap.size W2 W3 := by rw [← hW3]; exact (Below.refl W2.heap.size W2).alloc (Nat.le_refl _) _
  have hs3 : W3.heap.size = W2.heap.size + 1 := by rw [← hW3, World.size_alloc]
  have hxe : W3.cell? ⟨W2.heap.size, 0, none⟩ = some (.slice sa sn sc) := by rw [← hW3]; exact kcell (knew W2 _) 0 _ rfl
  -- what holds as long as KpZ does
  have hn01 : W0.heap.size ≤ W1.heap.size := HB01.out.size
  have HKV : Hid (∀ W', KpZ W0.heap.size W1.heap.size W3 W' → Below w.heap.size w W' ∧ ViewAt W' sa sn sc za zn zc va vn vc (.slice ca cn cc) o (cutsM rs) ss (coversM o rs ss) ∧ W'.heap[w2.heap.size]? = some (.cells #[.slice sa sn sc, .slice za zn zc, .slice va vn vc, .slice ca cn cc] 57)) := Lib.hid (fun W' hk => by
    have hb13 : Below w.heap.size w W3 := HB1.out.trans ((HB12.out.trans (hb3.mono HB12.out.size)).mono HB1.out.size)
    have hbw : Below w.heap.size w W' := hk.to hb13 HB0.out.size (Nat.le_refl _)
    have h3 : ∀ g, g < W2.heap.size → W3.heap[g]? = W2.heap[g]? := fun g h => hb3.block g h
    refine ⟨hbw, HV2.out W' hbw (fun g q1 q2 => ?_), ?_⟩
    · exact (hk.2.2.2.2 g (by have := HS2.out; omega) (.inr q1)).trans ((h3 g (by have := HS2.out; omega)).trans (HW2.out g q2))
    · exact (hk.2.2.2.2 _ (by have := HS2.out; omega) (.inr HL2.out)).trans ((h3 _ (by have := HS2.out; omega)).trans HX2.out))
  have hkr := KpZ.refl W0.heap.size W1.heap.size W3
  obtain ⟨-, hview, -⟩ := HKV.out W3 hkr
  obtain ⟨b, off, G, ha, hbl, hn, hG3, -⟩ := hview.sets.vals
  subst hn
  obtain ⟨b, off, ha, hbl, hG3, hbo⟩ : ∃ b2 off2, (ss.length = 0 ∨ sa = some ⟨b2, off2, none⟩) ∧ b2 < W3.heap.size ∧ (∀ W', Below W3.heap.size W3 W' → EAt W' b2 off2 G) ∧ (b2 < W0.heap.size ∨ W1.heap.size ≤ b2) := by
    by_cases h0 : 0 < ss.length
    · have hlt := World.block_lt_of_cell? W3 _ ((hG3 W3 (Below.refl _ _)) ⟨0, h0⟩).1
      refine ⟨b, off, ha, hlt, hG3, ?_⟩
      by_cases hp : b < W0.heap.size ∨ W1.heap.size ≤ b
      · exact hp
      · exfalso
        have hk : KpZ W0.heap.size W1.heap.size W3 (W3.putObj b (.deferred none)) := hkr.grown (grownBy_putObj' W3 b _) (fun q e => by cases e; omega)
        exact rowS_hit h0 (by rcases ha with h | h; omega; exact h) hlt (HKV.out _ hk).2.1.sets
    · exact ⟨0, 0, .inl (by omega), by omega, fun W' _ x => absurd x.isLt (by omega), .inl HP0.out⟩
  have HFZ0 : Hid (FZ W0.heap.size W1.heap.size W3 w1.heap.size (at0M o rs) W3) := Lib.hid (by
    have h13 : Below W1.heap.size W1 W3 := HB12.out.trans (hb3.mono HB12.out.size)
    exact ⟨ga, gn, gc, css0, (h13.block _ (kblock_lt HX1.out)).trans HX1.out, OwnK.below HO1.out h13, ⟨HF1.out.1, fun i a b => (HF1.out.2 i a b).below h13⟩, fun g e => ⟨(HG1.out g e).1, .inl (HG1.out g e).2⟩, hkr⟩)
  have HS3 := Lib.hid hs3; have HXE := Lib.hid hxe; have HAA := Lib.hid ha; have HBL := Lib.hid hbl; have HG3 := Lib.hid hG3; have HBO := Lib.hid hbo
  have HN01 := Lib.hid hn01
  have HBX : Hid (W0.heap.size ≤ w1.heap.size ∧ w1.heap.size < W1.heap.size) := Lib.hid ⟨HL1.out, by have := HS1.out; omega⟩
  have HN3 : Hid (W1.heap.size ≤ W3.heap.size) := Lib.hid (by have := HB12.out.size; omega)
  clear hb3 hs3 hxe ha hbl hG3 hbo hkr hview hn01 HB12 HV2 HX2 HW2 HO1 HF1 HG1
  go_wp2_with fail
  refine (wpIn_wide (n := 8)).1 ?_
  clear hW3
  refine wpIn_rangeFunc_ownH rfl (by omega) (gf := 38) (lb := #[.pointer (some ⟨W2.heap.size, 0, none⟩)]) rfl trivial (enters_of Try.func38 (by kernel_rfl) rfl)
    (each_stops _ (by omega) W2.heap.size sa b off ss.length sc G HAA.out HSL.out W3 (by rw [HS3.out]; omega) HXE.out HG3.out) keepB_t
    (keepB_b HBL.out) (Below.refl _ _) (fun _ => rfl)
    (fun pre W => FZ W0.heap.size W1.heap.size W3 w1.heap.size (at0M o rs ++ pre.flatMap fun x => fsOf ss[x] (kindsM o rs ss ss[x])) W)
    (fun _ _ _ => False)
    (fz_own (f := fun pre => at0M o rs ++ pre.flatMap fun x : Fin ss.length => fsOf ss[x] (kindsM o rs ss ss[x])) (by have := HBX.out; have := HN3.out; omega) (by have := HN01.out; have := HN3.out; omega)) (fun _ => ownFrom_pure _ _)
    (by simpa using HFZ0.out)
    (fun x a' W => ∃ B6, a' = { tmps := #[.agg #[.slice za zn zc, .slice v1 m c], .pointer (some ⟨w.heap.size, 0, none⟩), .slice none 0 0, .pointer (some ⟨w1.heap.size, 0, none⟩), .pointer (some ⟨w2.heap.size, 0, none⟩), .pointer (some ⟨B6, 0, none⟩), undef, undef, .agg #[.slice za zn zc, .slice v1 m c], .slice ga gn gc, .agg #[.slice za zn zc, .slice v1 m c], .agg #[.slice sa ss.length sc, .slice za zn zc, .slice va vn vc, .slice ca cn cc], .pointer (some ⟨w2.heap.size, 0, none⟩), .slice sa ss.length sc, .func (.func 38) #[] #[.pointer (some ⟨W2.heap.size, 0, none⟩)], .agg #[.slice (G x).1.1 (G x).1.2.1 (G x).1.2.2, .int .i64 (G x).2.1, .int .u32 (G x).2.2.1, .slice (G x).2.2.2.1 (G x).2.2.2.2.1 (G x).2.2.2.2.2], undef, undef, undef, undef, undef, undef, undef, undef, undef, undef, undef, undef, undef, undef, undef, undef, undef, undef, undef, undef, undef, undef], defers := [] } ∧ W3.heap.size ≤ B6 ∧ W.heap[B6]? = some (.cells #[.slice (G x).1.1 (G x).1.2.1 (G x).1.2.2, .int .i64 (G x).2.1, .int .u32 (G x).2.2.1, .slice (G x).2.2.2.1 (G x).2.2.2.2.1 (G x).2.2.2.2.2] 64)) (fun x a' u W W' row ⟨B6, ha, hb, hx⟩ hg hr => ⟨B6, ha, hb, (hg.block B6 (kblock_lt hx) (fun e => by obtain ⟨_, o, ho, hcell⟩ := hr B6 e.symm; rw [hx] at ho; cases ho; cases hcell)).trans hx⟩) ?assign ?body ?done ?stop
  case assign =>
    intro l pre x W K hi hK
    unfold eV
    gi_wp2
    have hbA : ∀ ob, Below W.heap.size W (W.alloc ob) := fun ob => (Below.refl _ W).alloc (Nat.le_refl _) ob
    have hsz : W3.heap.size ≤ W.heap.size := by obtain ⟨_, _, _, _, _, _, _, _, h⟩ := hi; exact h.2.2.2.1
    exact hK _ _ ((KeepsOthers.of_below (hbA _)).from _) (KeepB.alloc W _ (Nat.lt_of_lt_of_le HBL.out hsz)) (hi.below (hbA _)) ⟨W.heap.size, rfl, hsz, knew W _⟩
  case body =>
    rintro l pre x a' W hl2 hlp hfz ⟨B6, rfl, hB6, hx6⟩ hlt
    have hkp : KpZ W0.heap.size W1.heap.size W3 W := by obtain ⟨_, _, _, _, _, _, _, _, h⟩ := hfz; exact h
    obtain ⟨hww, hv, hx4⟩ := HKV.out W hkp
    have hEA : EAt W b off G := (HG3.out W3 (Below.refl _ _)).keptB (hkp.2.2.2.2 b HBL.out HBO.out)
    have hs := hv.sets.at HAA.out hEA x
    have hok := hv.sok ss[x] (List.getElem_mem _)
    have hki := view_kinds _ _ _ _ _ _ _ _ ss[x] hv hs hok
    rw [where_cuts] at hki
    obtain ⟨hown, hty, -⟩ := hs.own
    have HKS6 := Lib.hid (HKF.out ss[x])
    obtain ⟨s, hsx⟩ : ∃ s, ss[x] = s := ⟨_, rfl⟩
    have HSX := Lib.hid hsx
    have HNR : Hid (∀ W', KpZ W0.heap.size W1.heap.size W3 W' → NmAt W' (.slice (G x).1.1 (G x).1.2.1 (G x).1.2.2) s.owner) := Lib.hid (fun W' hk => by
      rw [← hsx]
      exact ((HKV.out W' hk).2.1.sets.at HAA.out ((HG3.out W3 (Below.refl _ _)).keptB (hk.2.2.2.2 b HBL.out HBO.out)) x).own.1)
    obtain ⟨ks, hks⟩ : ∃ ks, kindsM o rs ss s = ks := ⟨_, rfl⟩
    have HPRE := Lib.hid (show (at0M o rs ++ (pre ++ [x]).flatMap fun x : Fin ss.length => fsOf ss[x] (kindsM o rs ss ss[x])) = (at0M o rs ++ pre.flatMap fun x : Fin ss.length => fsOf ss[x] (kindsM o rs ss ss[x])) ++ fsOf s ks by
      rw [List.flatMap_append, ← List.append_assoc, ← hks, ← hsx]; simp)
    rw [hsx] at hki hown hty hok HKS6
    rw [show kindsW o (whereM o rs s.owner) (otherM ss s) (coverM (coversM o rs ss) s.owner) s = ks from hks] at hki HKS6
    have HLF : Hid ((at0M o rs ++ pre.flatMap fun x : Fin ss.length => fsOf ss[x] (kindsM o rs ss ss[x])).length ≤ 7000000) := Lib.hid (by
      rw [List.length_append]
      have h1 := HA2.out
      have h2 : (pre.flatMap fun x : Fin ss.length => fsOf ss[x] (kindsM o rs ss ss[x])).length ≤ pre.length * 6 := by
        exact flatMap_len6 _ (fun y => by have := HKF.out ss[y]; unfold fsOf kindsM; rw [List.length_map]; exact this) pre
      have h3 := HSL.out
      omega)
    obtain ⟨fs, hfs⟩ : ∃ fs, (at0M o rs ++ pre.flatMap fun x : Fin ss.length => fsOf ss[x] (kindsM o rs ss ss[x])) = fs := ⟨_, rfl⟩
    rw [hfs] at hfz HPRE HLF
    have y0 := kcell hx4 0 (.slice sa ss.length sc) rfl; have y1 := kcell hx4 1 (.slice za zn zc) rfl; have y2 := kcell hx4 2 (.slice va vn vc) rfl; have y3 := kcell hx4 3 (.slice ca cn cc) rfl
    have u0 := kcell hx6 0 _ rfl; have u1 := kcell hx6 1 _ rfl; have u2 := kcell hx6 2 _ rfl; have u3 := kcell hx6 3 _ rfl
    have HX6 := Lib.hid hx6; have HFZ := Lib.hid hfz; have HOWN := Lib.hid hown; have HOK := Lib.hid hok; have HB6 := Lib.hid hB6
    obtain ⟨tx, htx⟩ : ∃ y, (G x).2.1 = y := ⟨_, rfl⟩
    have HTX := Lib.hid (show tx = s.ty from htx.symm.trans hty)
    rw [htx] at hki u1 HX6 ⊢
    generalize (G x).1.1 = p0 at *
    generalize (G x).1.2.1 = q0 at *
    generalize (G x).1.2.2 = k0 at *
    clear hfz hkp hww hv hx4 hEA hs hok hown hty hx6 hlp hlt hfs hks hsx hB6 htx
    gi_wp2_with (refine ⟨trivial, ?_⟩; gi_at_call 20; refine (CallsIn.inRound l (callsIn_wide.2 hki)).mono ?_; rintro e w9 ⟨v9, rfl, ho9, hb9⟩; obtain ⟨ka, kc, rfl⟩ := ho9.shape; generalize hkn : ks.length = kn at *; have HO9 := Lib.hid ho9; have HB9 := Lib.hid hb9; have HKN := Lib.hid hkn; clear ho9 hb9 hkn)
    have hf9 := HFZ.out.below HB9.out
    have hx9 := (HB9.out.block _ (kblock_lt HX6.out)).trans HX6.out
    have hown9 : OwnG 3 iv w9 W3.heap.size (.slice ka kn kc) ks := HO9.out.weaken (by obtain ⟨_, _, _, _, _, _, _, _, h⟩ := HFZ.out; exact h.2.2.2.1)
    have HI0 := Lib.hid (show FZ W0.heap.size W1.heap.size W3 w1.heap.size (fs ++ fsOf s (ks.take 0)) w9 ∧ OwnG 3 iv w9 W3.heap.size (.slice ka kn kc) ks ∧ w9.heap[B6]? = some (.cells #[.slice p0 q0 k0, .int .i64 tx, .int .u32 (G x).2.2.1, .slice (G x).2.2.2.1 (G x).2.2.2.2.1 (G x).2.2.2.2.2] 64) ∧ KeepsOthers W w9 ∧ W.heap.size ≤ w9.heap.size ∧ KeepB b W w9 from ⟨by simpa [fsOf] using hf9, hown9, hx9, KeepsOthers.of_below HB9.out, HB9.out.size, HB9.out.block b (by obtain ⟨_, _, _, _, _, _, _, _, h⟩ := HFZ.out; exact Nat.lt_of_lt_of_le HBL.out h.2.2.2.1)⟩)
    clear hf9 hx9 hown9
    generalize (G x).2.2.1 = tl at *
    generalize (G x).2.2.2.1 = p3 at *
    generalize (G x).2.2.2.2.1 = q3 at *
    generalize (G x).2.2.2.2.2 = k3 at *
    clear hki
    have hkn6 : kn ≤ 6 := HKS6.out
    gi_wp2
    gi_loopw [20] (fun vi wr => ∃ k : Nat, vi = .int .i64 k ∧ k ≤ kn ∧ Hid (FZ W0.heap.size W1.heap.size W3 w1.heap.size (fs ++ fsOf s (ks.take k)) wr ∧ OwnG 3 iv wr W3.heap.size (.slice ka kn kc) ks ∧ wr.heap[B6]? = some (.cells #[.slice p0 q0 k0, .int .i64 tx, .int .u32 tl, .slice p3 q3 k3] 64) ∧ KeepsOthers W wr ∧ W.heap.size ≤ wr.heap.size ∧ KeepB b W wr)) (fun vi _ => kn - (intOf vi).toNat)
    case atStart => exact ⟨0, rfl, Nat.zero_le _, HI0⟩
    case round =>
      obtain ⟨k, rfl, hk, HI⟩ := hrel
      by_cases hlt : k < kn
      · have hltz : (k : Int) < (kn : Int) := by omega
        have hk2 : k < ks.length := by have := HKN.out; omega
        obtain ⟨⟨fa, fn, fc, css, b1, b2, b3, b4, b5⟩, i2, i3, i4, i5, i6⟩ := HI.out
        obtain ⟨kb, koff, rfl, hkb, hcell⟩ := (SlAt.of_own i2).cell (Below.refl _ _) k (by simpa using hk2)
        have htk : ks.take (k + 1) = ks.take k ++ [ks[k]] := List.take_succ_eq_append_getElem hk2
        rw [List.getElem_map] at hcell
        generalize ks[k] = kd at *
        have c0 := kcell b1 0 (.slice fa fn fc) rfl
        have s0 := kcell i3 0 (.slice p0 q0 k0) rfl; have s1 := kcell i3 1 (.int .i64 tx) rfl
        have HTK := Lib.hid htk
        clear htk hk2
        gi_wp2
        obtain ⟨no, hno⟩ : ∃ n, s.owner.length = n := ⟨_, rfl⟩
        have hd : Below wr.heap.size wr wr.drew := kdrew (Below.refl _ wr)
        have hW3 : W3.heap.size ≤ wr.heap.size := b5.2.2.2.1
        have HCL := Lib.hid (clone_z (fs := fs ++ fsOf s (ks.take k)) (W := wr.drew) (v := .slice p0 q0 k0) (css := css) (Nat.le_trans (Nat.le_trans HN01.out HN3.out) hW3) hno b1 (OwnK.below b2 hd) ⟨b3.1, fun i a b => (b3.2 i a b).below hd⟩ (b5.below hd) ((HNR.out wr b5).below hd) HOK.out)
        have HLOC := Lib.hid b4
        have H6D : Hid (wr.drew.heap[B6]? = some (.cells #[.slice p0 q0 k0, .int .i64 tx, .int .u32 tl, .slice p3 q3 k3] 64)) := Lib.hid i3
        have HNB : Hid (B6 ≠ w1.heap.size) := Lib.hid (by have := HBX.out; have := HN3.out; have := HB6.out; omega)
        have HN03 := Lib.hid (Nat.le_trans HN01.out HN3.out)
        have HLC : Hid (css.length ≤ 10000000) := Lib.hid (by rw [b3.1, List.length_append]; unfold fsOf; rw [List.length_map, List.length_take]; have := HLF.out; have := HKS6.out; omega)
        have HW3 := Lib.hid hW3
        have HI2 := Lib.hid i2; have HI4 := Lib.hid i4; have HI5 := Lib.hid i5; have HI6 := Lib.hid i6; have HNO := Lib.hid hno
        have KA := Lib.hid (fun (X : World) (ob : Obj) (h : X.cell? ⟨B6, 0, none⟩ = some (.slice p0 q0 k0) ∧ X.cell? ⟨B6, 1, none⟩ = some (.int .i64 tx)) => (show (X.alloc ob).cell? ⟨B6, 0, none⟩ = some (.slice p0 q0 k0) ∧ (X.alloc ob).cell? ⟨B6, 1, none⟩ = some (.int .i64 tx) from ⟨(World.cell?_alloc_lt X ob ⟨B6, 0, none⟩ (World.block_lt_of_cell? X _ h.1)).trans h.1, (World.cell?_alloc_lt X ob ⟨B6, 1, none⟩ (World.block_lt_of_cell? X _ h.2)).trans h.2⟩))
        have hS0 : wr.drew.cell? ⟨B6, 0, none⟩ = some (.slice p0 q0 k0) ∧ wr.drew.cell? ⟨B6, 1, none⟩ = some (.int .i64 tx) := ⟨s0, s1⟩
        have HS0 := Lib.hid hS0
        have KS := Lib.hid (fun (X : World) (hb : Below wr.drew.heap.size wr.drew X) => (show X.cell? ⟨B6, 0, none⟩ = some (.slice p0 q0 k0) ∧ X.cell? ⟨B6, 1, none⟩ = some (.int .i64 tx) from ⟨(hb.cell (World.block_lt_of_cell? _ _ HS0.out.1)).trans HS0.out.1, (hb.cell (World.block_lt_of_cell? _ _ HS0.out.2)).trans HS0.out.2⟩))
        have KP := Lib.hid (fun (X : World) (u : Value) (h : X.cell? ⟨B6, 0, none⟩ = some (.slice p0 q0 k0) ∧ X.cell? ⟨B6, 1, none⟩ = some (.int .i64 tx)) => (show (X.setCell ⟨w1.heap.size, 0, none⟩ u).cell? ⟨B6, 0, none⟩ = some (.slice p0 q0 k0) ∧ (X.setCell ⟨w1.heap.size, 0, none⟩ u).cell? ⟨B6, 1, none⟩ = some (.int .i64 tx) from ⟨(World.cell?_setCell_far X ⟨w1.heap.size, 0, none⟩ ⟨B6, 0, none⟩ u (fun e => HNB.out e.symm)).trans h.1, (World.cell?_setCell_far X ⟨w1.heap.size, 0, none⟩ ⟨B6, 1, none⟩ u (fun e => HNB.out e.symm)).trans h.2⟩))
        have KB := Lib.hid (fun (X : World) (h : X.heap[B6]? = some (.cells #[.slice p0 q0 k0, .int .i64 tx, .int .u32 tl, .slice p3 q3 k3] 64)) => (show X.cell? ⟨B6, 0, none⟩ = some (.slice p0 q0 k0) ∧ X.cell? ⟨B6, 1, none⟩ = some (.int .i64 tx) from ⟨kcell h 0 _ rfl, kcell h 1 _ rfl⟩))
        have TL := Lib.hid (fun (w7 w8 : World) (ya : Option Addr) (yc g8 n8 c8 : Nat) (hb : Below wr.drew.heap.size wr.drew w7) (hoA : OwnC 3 43 (w7.alloc (.cells #[.int .i64 kd, .slice ya no yc, .int .i64 tx] 43)) W0.heap.size (.slice fa fn fc) css) (hg : (w7.alloc (.cells #[.int .i64 kd, .slice ya no yc, .int .i64 tx] 43)).grownBy w8 (Value.slice fa fn fc).ownBlock) (hx8 : w8.heap[w1.heap.size]? = some (.cells #[.slice fa fn fc] 36)) => (show OwnG 3 iv (w8.setCell ⟨w1.heap.size, 0, none⟩ (.slice (some ⟨g8, 0, none⟩) n8 c8)) W3.heap.size (.slice (some ⟨kb, koff, none⟩) kn kc) ks ∧ KeepsOthers W (w8.setCell ⟨w1.heap.size, 0, none⟩ (.slice (some ⟨g8, 0, none⟩) n8 c8)) ∧ W.heap.size ≤ (w8.setCell ⟨w1.heap.size, 0, none⟩ (.slice (some ⟨g8, 0, none⟩) n8 c8)).heap.size ∧ KeepB b W (w8.setCell ⟨w1.heap.size, 0, none⟩ (.slice (some ⟨g8, 0, none⟩) n8 c8)) from by
          have hbA := (Below.refl w7.heap.size w7).alloc (Nat.le_refl _) (.cells #[.int .i64 kd, .slice ya no yc, .int .i64 tx] 43)
          have hbl := HBL.out; have hbo := HBO.out
          have hbw : b < wr.heap.size := Nat.lt_of_lt_of_le hbl (Nat.le_trans HW3.out (Nat.le_refl _))
          have hb7 : b < w7.heap.size := Nat.lt_of_lt_of_le hbw hb.size
          refine ⟨OwnG.keptB ((((HI2.out.below (kdrew (Below.refl _ wr))).below hb).below hbA).kept_c hoA (by decide) hg) hx8 (by decide) 0 _, ((((HI4.out.trans (KeepsOthers.of_below (kdrew (Below.refl _ wr)))).trans (KeepsOthers.of_below hb)).trans (KeepsOthers.of_below hbA)).trans (KeepsOthers.grown_c hoA hg)).trans (KeepsOthers.setCell _ _ _), ?_, ?_⟩
          · have h1 := hg.size; have h2 := hbA.size; have h3 := hb.size; have h4 := HI5.out; have h5 := (grownBy_set w8 w1.heap.size 0 (.slice (some ⟨g8, 0, none⟩) n8 c8)).size
            exact Nat.le_trans h4 (Nat.le_trans h3 (Nat.le_trans h2 (Nat.le_trans h1 h5)))
          · refine ((grownBy_set w8 w1.heap.size 0 (.slice (some ⟨g8, 0, none⟩) n8 c8)).block b (Nat.lt_of_lt_of_le (Nat.lt_of_lt_of_le hb7 hbA.size) hg.size) (fun e => by injection e with e; have := HBX.out; omega)).trans ?_
            refine (hg.block b (Nat.lt_of_lt_of_le hb7 hbA.size) (fun e => by have := HLOC.out b e.symm; omega)).trans ?_
            exact (hbA.block b hb7).trans ((hb.block b hbw).trans HI6.out)))
        clear b1 b2 b3 b4 b5 i2 i3 i4 i5 i6 hno hd hW3 s0 s1 hcell
        refine wpIn_region_round (S := fun X => X.cell? ⟨B6, 0, none⟩ = some (.slice p0 q0 k0) ∧ X.cell? ⟨B6, 1, none⟩ = some (.int .i64 tx)) (by kernel_rfl) (by rfl) hS0 (fun hHeld => ?_)
        refine wpAnyH_take (i := 1) (v := .int .i64 kd) rfl (by kernel_rfl) (by kernel_rfl) (by kernel_rfl) (fun _ _ _ h => h) (Or.inl ⟨by rfl, ?_⟩) (by assumption) ?_
        · (intro wS hSw; (try dsimp only at hSw); go_simp)
        try simp only [Act.put, List.setIfInBounds_toArray, List.set_cons_zero, List.set_cons_succ]
        refine wpAnyH_take (i := 2) (v := .pointer (some ⟨B6, 0, none⟩)) rfl (by kernel_rfl) (by kernel_rfl) (by kernel_rfl) (fun _ _ _ h => h) (Or.inl ⟨by rfl, ?_⟩) (by assumption) ?_
        · (intro wS hSw; (try dsimp only at hSw); go_simp)
        try simp only [Act.put, List.setIfInBounds_toArray, List.set_cons_zero, List.set_cons_succ]
        refine wpAnyH_take (i := 5) (v := .pointer (some ⟨B6, 1, none⟩)) rfl (by kernel_rfl) (by kernel_rfl) (by kernel_rfl) (fun _ _ _ h => h) (Or.inl ⟨by rfl, ?_⟩) (by assumption) ?_
        · (intro wS hSw; (try dsimp only at hSw); go_simp)
        try simp only [Act.put, List.setIfInBounds_toArray, List.set_cons_zero, List.set_cons_succ]
        refine wpAnyH_take (i := 3) (v := .slice p0 q0 k0) rfl (by kernel_rfl) (by kernel_rfl) (by kernel_rfl) (fun _ _ _ h => h) (Or.inl ⟨by rfl, ?_⟩) (by assumption) ?_
        · (intro wS hSw; (try dsimp only at hSw); go_simp)
        try simp only [Act.put, List.setIfInBounds_toArray, List.set_cons_zero, List.set_cons_succ]
        refine wpAnyH_take (i := 6) (v := .int .i64 tx) rfl (by kernel_rfl) (by kernel_rfl) (by kernel_rfl) (fun _ _ _ h => h) (Or.inl ⟨by rfl, ?_⟩) (by assumption) ?_
        · (intro wS hSw; (try dsimp only at hSw); go_simp)
        try simp only [Act.put, List.setIfInBounds_toArray, List.set_cons_zero, List.set_cons_succ]
        refine wpAnyH_ready (rs := [0, 4]) (by kernel_rfl) (by simp) ?_
        refine AllReadyH.cons rfl (fun K hK => ?_) ?_
        · go_simp
          refine hK.out _ _ ?_ (fun hHeld => ?_)
          · (first | with_reducible assumption | exact KR.out | exact KA.out _ _ (by assumption) | exact KP.out _ _ (by assumption))
          clear hK K
          try simp only [Act.put, List.setIfInBounds_toArray, List.set_cons_zero, List.set_cons_succ]
          refine wpAnyH_ready (rs := [4]) (by kernel_rfl) (by simp) ?_
          refine AllReadyH.cons rfl (fun K hK => ?_) ?_
          · go_simp
            refine (HCL.out).mono ?_
            rintro e w7 ⟨ya, yc, rfl, hn7, hx7, hown7, hfr7, hk7, hb7⟩
            have hS7 := KS.out _ hb7
            have c7 := kcell hx7 0 (.slice fa fn fc) rfl
            have hbA := (Below.refl w7.heap.size w7).alloc (Nat.le_refl _) (.cells #[.int .i64 kd, .slice ya no yc, .int .i64 tx] 43)
            have c7A := kcell ((hbA.block w1.heap.size (kblock_lt hx7)).trans hx7) 0 (.slice fa fn fc) rfl
            have hSA := KA.out _ (.cells #[.int .i64 kd, .slice ya no yc, .int .i64 tx] 43) hS7
            have H7 := Lib.hid (And.intro hn7 (And.intro hx7 (And.intro hown7 (And.intro hfr7 (And.intro hk7 hb7)))))
            clear hn7 hx7 hown7 hfr7 hk7 hb7 hbA
            refine hK.out _ _ ?_ (fun hHeld => ?_)
            · (first | with_reducible assumption | exact KR.out | exact KA.out _ _ (by assumption) | exact KP.out _ _ (by assumption))
            clear hK K
            try simp only [Act.put, List.setIfInBounds_toArray, List.set_cons_zero, List.set_cons_succ]
            refine wpAnyH_take (i := 7) (v := .agg #[.int .i64 kd, .slice ya no yc, .int .i64 tx]) rfl (by kernel_rfl) (by kernel_rfl) (by kernel_rfl) (fun _ _ _ h => h) (Or.inl ⟨by rfl, ?_⟩) (by assumption) ?_
            · (intro wS hSw; (try dsimp only at hSw); go_simp)
            try simp only [Act.put, List.setIfInBounds_toArray, List.set_cons_zero, List.set_cons_succ]
            refine wpAnyH_ready (rs := [8]) (by kernel_rfl) (by simp) ?_
            refine AllReadyH.cons rfl (fun K hK => ?_) ?_
            · go_simp
              refine hK.out _ _ ?_ (fun hHeld => ?_)
              · (first | with_reducible assumption | exact KR.out | exact KA.out _ _ (by assumption) | exact KP.out _ _ (by assumption))
              clear hK K
              try simp only [Act.put, List.setIfInBounds_toArray, List.set_cons_zero, List.set_cons_succ]
              refine wpAnyH_ready (rs := [9]) (by kernel_rfl) (by simp) ?_
              refine AllReadyH.cons rfl (fun K hK => ?_) ?_
              · obtain ⟨p1, p2, p3, p4, p5, p6⟩ := H7.out
                have hbA := (Below.refl w7.heap.size w7).alloc (Nat.le_refl _) (.cells #[.int .i64 kd, .slice ya no yc, .int .i64 tx] 43)
                have hownA := OwnK.below p3 hbA
                refine step_append_fl w7 kd tx ya no yc W0.heap.size fa fn fc css hownA (Nat.le_trans HN03.out p5.2.2.2.1) HLC.out rfl (.tmp 24) (.tmp 32) rfl rfl rfl ?_
                intro g8 n8 c8 w8 ho8 hg8 hl8
                have hfin := FZ.step HBX.out p2 p3 p4 HLOC.out p5 p1 ho8 hg8 hl8
                have c8' := kcell hfin.2.1 0 (.slice fa fn fc) rfl
                have f8 := kfrozen hfin.2.1 0
                have h6B := (p6.block B6 (kblock_lt H6D.out)).trans H6D.out
                have h68 := hfin.2.2 B6 _ _ (by decide) HNB.out h6B
                have h6A := (hbA.block B6 (kblock_lt h6B)).trans h6B
                have hS8 := KB.out _ ((hg8.block B6 (kblock_lt h6A) (fun e => OwnK.ne_block hownA h6A (by decide) e)).trans h6A)
                have HFIN := Lib.hid (And.intro hfin.1 (And.intro h68 (TL.out w7 w8 ya yc g8 n8 c8 p6 hownA hg8 hfin.2.1)))
                clear p1 p2 p3 p4 p5 p6 hfin ho8 hl8 h6B h68 h6A hbA hownA
                refine hK.out _ _ ?_ (fun hHeld => ?_)
                · (first | with_reducible assumption | exact KR.out | exact KA.out _ _ (by assumption) | exact KP.out _ _ (by assumption))
                clear hK K
                try simp only [Act.put, List.setIfInBounds_toArray, List.set_cons_zero, List.set_cons_succ]
                refine wpAnyH_ready (rs := [10]) (by kernel_rfl) (by simp) ?_
                refine AllReadyH.cons rfl (fun K hK => ?_) ?_
                · go_simp
                  refine hK.out _ _ ?_ (fun hHeld => ?_)
                  · (first | with_reducible assumption | exact KR.out | exact KA.out _ _ (by assumption) | exact KP.out _ _ (by assumption))
                  clear hK K
                  try simp only [Act.put, List.setIfInBounds_toArray, List.set_cons_zero, List.set_cons_succ]
                  refine wpAnyH_done (by kernel_rfl) ?_ _
                  simp only [OnlyN]
                  gi_wp2
                  go_roundw
                  case measure => simp [intOf]; omega
                  case rel => exact ⟨k + 1, by go_num, by omega, Lib.hid ⟨by rw [HTK.out, fsOf_snoc, ← List.append_assoc, ← HTX.out]; exact HFIN.out.1, HFIN.out.2.2.1, HFIN.out.2.1, HFIN.out.2.2.2⟩⟩
                exact AllReadyH.nil
              exact AllReadyH.nil
            exact AllReadyH.nil
          exact AllReadyH.nil
        refine AllReadyH.cons rfl (fun K hK => ?_) ?_
        · go_simp
          refine (HCL.out).mono ?_
          rintro e w7 ⟨ya, yc, rfl, hn7, hx7, hown7, hfr7, hk7, hb7⟩
          have hS7 := KS.out _ hb7
          have c7 := kcell hx7 0 (.slice fa fn fc) rfl
          have hbA := (Below.refl w7.heap.size w7).alloc (Nat.le_refl _) (.cells #[.int .i64 kd, .slice ya no yc, .int .i64 tx] 43)
          have c7A := kcell ((hbA.block w1.heap.size (kblock_lt hx7)).trans hx7) 0 (.slice fa fn fc) rfl
          have hSA := KA.out _ (.cells #[.int .i64 kd, .slice ya no yc, .int .i64 tx] 43) hS7
          have H7 := Lib.hid (And.intro hn7 (And.intro hx7 (And.intro hown7 (And.intro hfr7 (And.intro hk7 hb7)))))
          clear hn7 hx7 hown7 hfr7 hk7 hb7 hbA
          refine hK.out _ _ ?_ (fun hHeld => ?_)
          · (first | with_reducible assumption | exact KR.out | exact KA.out _ _ (by assumption) | exact KP.out _ _ (by assumption))
          clear hK K
          try simp only [Act.put, List.setIfInBounds_toArray, List.set_cons_zero, List.set_cons_succ]
          refine wpAnyH_take (i := 7) (v := .agg #[.int .i64 kd, .slice ya no yc, .int .i64 tx]) rfl (by kernel_rfl) (by kernel_rfl) (by kernel_rfl) (fun _ _ _ h => h) (Or.inl ⟨by rfl, ?_⟩) (by assumption) ?_
          · (intro wS hSw; (try dsimp only at hSw); go_simp)
          try simp only [Act.put, List.setIfInBounds_toArray, List.set_cons_zero, List.set_cons_succ]
          refine wpAnyH_ready (rs := [0, 8]) (by kernel_rfl) (by simp) ?_
          refine AllReadyH.cons rfl (fun K hK => ?_) ?_
          · go_simp
            refine hK.out _ _ ?_ (fun hHeld => ?_)
            · (first | with_reducible assumption | exact KR.out | exact KA.out _ _ (by assumption) | exact KP.out _ _ (by assumption))
            clear hK K
            try simp only [Act.put, List.setIfInBounds_toArray, List.set_cons_zero, List.set_cons_succ]
            refine wpAnyH_ready (rs := [8]) (by kernel_rfl) (by simp) ?_
            refine AllReadyH.cons rfl (fun K hK => ?_) ?_
            · go_simp
              refine hK.out _ _ ?_ (fun hHeld => ?_)
              · (first | with_reducible assumption | exact KR.out | exact KA.out _ _ (by assumption) | exact KP.out _ _ (by assumption))
              clear hK K
              try simp only [Act.put, List.setIfInBounds_toArray, List.set_cons_zero, List.set_cons_succ]
              refine wpAnyH_ready (rs := [9]) (by kernel_rfl) (by simp) ?_
              refine AllReadyH.cons rfl (fun K hK => ?_) ?_
              · obtain ⟨p1, p2, p3, p4, p5, p6⟩ := H7.out
                have hbA := (Below.refl w7.heap.size w7).alloc (Nat.le_refl _) (.cells #[.int .i64 kd, .slice ya no yc, .int .i64 tx] 43)
                have hownA := OwnK.below p3 hbA
                refine step_append_fl w7 kd tx ya no yc W0.heap.size fa fn fc css hownA (Nat.le_trans HN03.out p5.2.2.2.1) HLC.out rfl (.tmp 24) (.tmp 32) rfl rfl rfl ?_
                intro g8 n8 c8 w8 ho8 hg8 hl8
                have hfin := FZ.step HBX.out p2 p3 p4 HLOC.out p5 p1 ho8 hg8 hl8
                have c8' := kcell hfin.2.1 0 (.slice fa fn fc) rfl
                have f8 := kfrozen hfin.2.1 0
                have h6B := (p6.block B6 (kblock_lt H6D.out)).trans H6D.out
                have h68 := hfin.2.2 B6 _ _ (by decide) HNB.out h6B
                have h6A := (hbA.block B6 (kblock_lt h6B)).trans h6B
                have hS8 := KB.out _ ((hg8.block B6 (kblock_lt h6A) (fun e => OwnK.ne_block hownA h6A (by decide) e)).trans h6A)
                have HFIN := Lib.hid (And.intro hfin.1 (And.intro h68 (TL.out w7 w8 ya yc g8 n8 c8 p6 hownA hg8 hfin.2.1)))
                clear p1 p2 p3 p4 p5 p6 hfin ho8 hl8 h6B h68 h6A hbA hownA
                refine hK.out _ _ ?_ (fun hHeld => ?_)
                · (first | with_reducible assumption | exact KR.out | exact KA.out _ _ (by assumption) | exact KP.out _ _ (by assumption))
                clear hK K
                try simp only [Act.put, List.setIfInBounds_toArray, List.set_cons_zero, List.set_cons_succ]
                refine wpAnyH_ready (rs := [10]) (by kernel_rfl) (by simp) ?_
                refine AllReadyH.cons rfl (fun K hK => ?_) ?_
                · go_simp
                  refine hK.out _ _ ?_ (fun hHeld => ?_)
                  · (first | with_reducible assumption | exact KR.out | exact KA.out _ _ (by assumption) | exact KP.out _ _ (by assumption))
                  clear hK K
                  try simp only [Act.put, List.setIfInBounds_toArray, List.set_cons_zero, List.set_cons_succ]
                  refine wpAnyH_done (by kernel_rfl) ?_ _
                  simp only [OnlyN]
                  gi_wp2
                  go_roundw
                  case measure => simp [intOf]; omega
                  case rel => exact ⟨k + 1, by go_num, by omega, Lib.hid ⟨by rw [HTK.out, fsOf_snoc, ← List.append_assoc, ← HTX.out]; exact HFIN.out.1, HFIN.out.2.2.1, HFIN.out.2.1, HFIN.out.2.2.2⟩⟩
                exact AllReadyH.nil
              exact AllReadyH.nil
            exact AllReadyH.nil
          refine AllReadyH.cons rfl (fun K hK => ?_) ?_
          · go_simp
            refine hK.out _ _ ?_ (fun hHeld => ?_)
            · (first | with_reducible assumption | exact KR.out | exact KA.out _ _ (by assumption) | exact KP.out _ _ (by assumption))
            clear hK K
            try simp only [Act.put, List.setIfInBounds_toArray, List.set_cons_zero, List.set_cons_succ]
            refine wpAnyH_ready (rs := [0]) (by kernel_rfl) (by simp) ?_
            refine AllReadyH.cons rfl (fun K hK => ?_) ?_
            · go_simp
              refine hK.out _ _ ?_ (fun hHeld => ?_)
              · (first | with_reducible assumption | exact KR.out | exact KA.out _ _ (by assumption) | exact KP.out _ _ (by assumption))
              clear hK K
              try simp only [Act.put, List.setIfInBounds_toArray, List.set_cons_zero, List.set_cons_succ]
              refine wpAnyH_ready (rs := [9]) (by kernel_rfl) (by simp) ?_
              refine AllReadyH.cons rfl (fun K hK => ?_) ?_
              · obtain ⟨p1, p2, p3, p4, p5, p6⟩ := H7.out
                have hbA := (Below.refl w7.heap.size w7).alloc (Nat.le_refl _) (.cells #[.int .i64 kd, .slice ya no yc, .int .i64 tx] 43)
                have hownA := OwnK.below p3 hbA
                refine step_append_fl w7 kd tx ya no yc W0.heap.size fa fn fc css hownA (Nat.le_trans HN03.out p5.2.2.2.1) HLC.out rfl (.tmp 24) (.tmp 32) rfl rfl rfl ?_
                intro g8 n8 c8 w8 ho8 hg8 hl8
                have hfin := FZ.step HBX.out p2 p3 p4 HLOC.out p5 p1 ho8 hg8 hl8
                have c8' := kcell hfin.2.1 0 (.slice fa fn fc) rfl
                have f8 := kfrozen hfin.2.1 0
                have h6B := (p6.block B6 (kblock_lt H6D.out)).trans H6D.out
                have h68 := hfin.2.2 B6 _ _ (by decide) HNB.out h6B
                have h6A := (hbA.block B6 (kblock_lt h6B)).trans h6B
                have hS8 := KB.out _ ((hg8.block B6 (kblock_lt h6A) (fun e => OwnK.ne_block hownA h6A (by decide) e)).trans h6A)
                have HFIN := Lib.hid (And.intro hfin.1 (And.intro h68 (TL.out w7 w8 ya yc g8 n8 c8 p6 hownA hg8 hfin.2.1)))
                clear p1 p2 p3 p4 p5 p6 hfin ho8 hl8 h6B h68 h6A hbA hownA
                refine hK.out _ _ ?_ (fun hHeld => ?_)
                · (first | with_reducible assumption | exact KR.out | exact KA.out _ _ (by assumption) | exact KP.out _ _ (by assumption))
                clear hK K
                try simp only [Act.put, List.setIfInBounds_toArray, List.set_cons_zero, List.set_cons_succ]
                refine wpAnyH_ready (rs := [10]) (by kernel_rfl) (by simp) ?_
                refine AllReadyH.cons rfl (fun K hK => ?_) ?_
                · go_simp
                  refine hK.out _ _ ?_ (fun hHeld => ?_)
                  · (first | with_reducible assumption | exact KR.out | exact KA.out _ _ (by assumption) | exact KP.out _ _ (by assumption))
                  clear hK K
                  try simp only [Act.put, List.setIfInBounds_toArray, List.set_cons_zero, List.set_cons_succ]
                  refine wpAnyH_done (by kernel_rfl) ?_ _
                  simp only [OnlyN]
                  gi_wp2
                  go_roundw
                  case measure => simp [intOf]; omega
                  case rel => exact ⟨k + 1, by go_num, by omega, Lib.hid ⟨by rw [HTK.out, fsOf_snoc, ← List.append_assoc, ← HTX.out]; exact HFIN.out.1, HFIN.out.2.2.1, HFIN.out.2.1, HFIN.out.2.2.2⟩⟩
                exact AllReadyH.nil
              exact AllReadyH.nil
            exact AllReadyH.nil
          exact AllReadyH.nil
        exact AllReadyH.nil
      · obtain rfl : k = kn := by omega
        obtain ⟨i1, i2, i3, i4, i5, i6⟩ := HI.out
        rw [List.take_of_length_le (by have := HKN.out; omega)] at i1
        have HE := Lib.hid (And.intro i1 (And.intro i4 i6))
        clear i1 i2 i3 i4 i5 i6 HI
        gi_wp2
        refine ⟨HE.out.2.1.from _, HE.out.2.2, ?_⟩
        show FZ _ _ _ _ _ _
        rw [HPRE.out]
        exact HE.out.1
  case done =>
    rintro D xs2 W hD rfl hfz hK
    have hall : at0M o rs ++ (List.finRange ss.length).flatMap (fun x : Fin ss.length => fsOf ss[x] (kindsM o rs ss ss[x])) = all := by
      rw [HALL.out]
      congr 1
      exact finRange_flatMap ss (fun s => fsOf s (kindsM o rs ss s))
    rw [hall] at hfz
    obtain ⟨fa, fn, fc, css, b1, b2, b3, b4, b5⟩ := hfz
    have hD3 : W3.heap.size ≤ D := hD
    have hll : css.length ≤ 1000000000000 := by
      rw [b3.1, HALL.out, List.length_append]
      have h1 := HA2.out
      have h2 := flatMap_len6 (fun s => fsOf s (kindsM o rs ss s)) (fun s => by have := HKF.out s; unfold fsOf kindsM; rw [List.length_map]; exact this) ss
      have h3 := HSL.out
      omega
    have hc := sort_funcG (.slice fa fn fc) css all W W0.heap.size (fun W' hg => ⟨b3.1, fun i q1 q2 => ((b3.2 i q1 q2).kept_c b2 (by decide) hg).flAt⟩) HOKL.out b2 hll
    have c0 := kcell b1 0 (.slice fa fn fc) rfl
    have HLC := Lib.hid b4
    have HB1' := Lib.hid b1; have HB2 := Lib.hid b2; have HB5 := Lib.hid b5; have HKD := Lib.hid hK; have HD3 := Lib.hid hD3
    clear b1 b2 b3 b4 b5 hK hD3 hll hall hD
    go_wp2_with fail
    refine hc.mono ?_
    rintro e w9 ⟨rfl, css', fs', h1, h2, h3, h4, h5, h6⟩
    have hx9 := (h6.block _ (kblock_lt HB1'.out) (fun e => OwnK.ne_block HB2.out HB1'.out (by decide) e)).trans HB1'.out
    have hd9 : w9.heap[D]? = some (.deferred (some [])) := (h6.block D (kblock_lt HKD.out) (fun e => by
      rcases HB2.out.2 with ⟨hn, _⟩ | ⟨g, cap, cur, hn, _, hh, _⟩
      · rw [hn] at e; cases e
      · rw [hn] at e
        simp only [Value.ownBlock] at e
        injection e with e
        subst e
        rw [HKD.out] at hh; cases hh)).trans HKD.out
    have c9 := kcell hx9 0 (.slice fa fn fc) rfl
    have hk9 : KpZ W0.heap.size W1.heap.size W3 w9 := HB5.out.grown h6 (fun g e => by
      have := HLC.out g e; exact this)
    have hw9 := (HKV.out w9 hk9).1
    have HFIN : Hid (ZnPost w all (.returned (.slice fa fn fc)) (w9.putObj D (.deferred none))) := Lib.hid ⟨_, css', fs', rfl, slK_putO hd9 h1, fls_putO hd9 h3, h4, h5, below_putO hw9 (by have := HD3.out; have := HB0.out.size; have := HN01.out; have := HN3.out; omega) (Nat.le_refl _)⟩
    have HD9 := Lib.hid hd9
    clear hc h1 h2 h3 h4 h5 h6 hx9 hd9 hk9 hw9 c0
    go_wp2
    refine ⟨by simp, .inl ⟨_, _, rfl, run_takeDeferred HD9.out, ?_⟩⟩
    refine ⟨_, results_tmp rfl _ _ _, ?_⟩
    exact HFIN.out
  case stop =>
    rintro D k pre W hD hp hF hK
    exact hF.elim
end
end Go.Proofs.Ytckammgnmgkieaa

