/-
  zone.Glue.
-/
import Derived.Test.YtckammgnmgkieaaGreatMQ13
import Derived.Test.YtckammgnmgkieaaGreatMQ08
import Derived.Test.YtckammgnmgkieaaGreatMQ31
namespace Go.Proofs.YtckammgnmgkieaaGreat
set_option maxRecDepth 20000
open Go.RowKit Go.Shelf
set_option maxRecDepth 20000
set_option linter.unusedVariables false
set_option linter.unusedSimpArgs false
theorem wpl_append_cs {S T : TypeId} {k bytes : Nat} {ops : Array Oper} {rest : List Oper} {o : Oper} {a : Act} {Q : Exit → Act → World → Prop} (W : World) (hgd : o.guard = none) (s x : Operand) (hE : ElemK k T S bytes) (hk0 : 0 < k)
    (ho : o.op = .call { callee := .builtin .append, args := #[s, x], argTypes := #[S, S] })
    (base : Nat) (v : Value) (xs : List (List Value)) (hs : a.eval s = v) (hown : OwnC k T W base v xs)
    (src : Value) (yss : List (List Value)) (hx : a.eval x = src) (hsrc : SlK W src yss) (hy : ∀ ys ∈ yss, ys.length = k) (hy1 : ∀ ys ∈ yss, ∀ u ∈ ys, u.oneCell' = true)
    (hbase : base ≤ W.heap.size) (hk : xs.length + yss.length ≤ maxLen) (hk2 : (xs.length + yss.length) * bytes ≤ 140737488355328)
    (h : ∀ v' w', OwnC k T w' base v' (xs ++ yss) → W.grownBy w' v.ownBlock → wpList Tryz.prog ops Q rest (a.put o.dst v') w') :
    wpList Tryz.prog ops Q (o :: rest) a W := by
  obtain ⟨ht, i, z, hi, hz, hz1, hz2, hzc⟩ := hE
  obtain ⟨a0, c0, rfl, hc0, hn0, hcells⟩ := id hsrc
  cases a0 with
  | none =>
    have e3 := hn0 rfl
    subst e3
    obtain rfl : yss = [] := List.eq_nil_of_length_eq_zero (by omega)
    refine wpList_append_own_none hgd s x S ho base T i k ht hi v _ _ hs hown hx ?_
    exact h v W (by rw [List.append_nil]; exact hown) ⟨rfl, rfl, rfl, Nat.le_refl _, fun _ _ _ => rfl⟩
  | some ad =>
    have hcell : ∀ j u, yss.flatten[j]? = some u → W.cell? (ad.add j) = some u := by
      intro j u hj
      rcases hcells with e | ⟨b, off, e, _, hc⟩
      · subst e; simp at hj
      · cases e
        rw [Addr.add_lit]; exact hc j u hj
    have hlen : ∀ l : List (List Value), (∀ ys ∈ l, ys.length = k) → l.flatten.length = l.length * k := by
      intro l
      induction l with
      | nil => intro _; simp
      | cons y t ih =>
        intro hl
        rw [List.flatten_cons, List.length_append, hl y (by simp), ih fun ys hys => hl ys (by simp [hys]), List.length_cons, Nat.succ_mul]
        omega
    refine wpList_append_own _ hgd s x S ho base T i z k bytes ht hi hz hz1 hz2 hzc hk0 v xs.length (xs.flatMap fun cs => cs) hs hown ad yss.length c0 yss.flatten hx (hlen yss hy) hcell (by intro u hu; obtain ⟨ys, hys, hu⟩ := List.mem_flatten.1 hu; exact hy1 ys hys u hu) hk hk2 hbase ?_
    intro v' w' h1 h2 _
    refine h v' w' ?_ h2
    unfold OwnC OwnK
    rw [List.length_append, List.flatMap_append]
    have e : (yss.flatMap fun cs => cs) = yss.flatten := by rw [List.flatMap_id']
    rw [e]
    exact h1
theorem DRow.keptC {W W' : World} {base base' k : Nat} {vn vu vt vr v' : Value} {yss : List (List Value)} {d : Dat} (h : DRow W base vn vu vt vr d) (h' : OwnC k 101 W base' v' yss) (hg : W.grownBy W' v'.ownBlock) : DRow W' base vn vu vt vr d := by
  obtain ⟨⟨vs, k1, k2, k3⟩, i1, i2, i3⟩ := h
  exact ⟨⟨vs, k1.kept_c h' (by decide) hg, k2, fun i a b => (k3 i a b).kept_c h' (by decide) hg⟩, i1.kept_c h' (by decide) hg, i2.kept_c h' (by decide) hg, i3.kept_c h' (by decide) hg⟩
theorem FrSet.below {W W' : World} {base : Nat} {cs : List Value} {s : St} (h : FrSet W base cs s) (hb : Below W.heap.size W W') : FrSet W' base cs s := by
  obtain ⟨x0, x3, ds, e, h1, h2, h3, h4⟩ := h
  refine ⟨x0, x3, ds, e, h1.below hb, OwnK.below h2 hb, h3, fun j a b => ?_⟩
  obtain ⟨vn, vu, vt, vr, e2, h6⟩ := h4 j a b
  exact ⟨vn, vu, vt, vr, e2, h6.below hb⟩
theorem mem_le_sum : ∀ (l : List Nat), ∀ x ∈ l, x ≤ l.sum
  | [], x, h => by cases h
  | y :: t, x, h => by
    rw [List.sum_cons]
    rcases List.mem_cons.1 h with rfl | h
    · omega
    · have := mem_le_sum t x h; omega
theorem ofM_len (l : List Rc) (o : Nm) (t : Int) : ((ofM l o t).getD ⟨[], 0, 0, []⟩).data.length ≤ l.length := by
  cases h : ofM l o t with
  | none => simp
  | some s =>
    have hs : s ∈ setsM (canonM (l.filter (belM o t))) := by unfold ofM at h; exact List.mem_of_mem_head? h
    have h1 := sets_count (canonM (l.filter (belM o t))).length (canonM (l.filter (belM o t))) (Nat.le_refl _)
    have h2 := mem_le_sum _ _ (List.mem_map.2 ⟨s, hs, rfl⟩ : s.data.length ∈ (setsM (canonM (l.filter (belM o t)))).map fun s => s.data.length)
    have h3 := canonM_length (l.filter (belM o t))
    have h4 := List.length_filter_le (belM o t) l
    show s.data.length ≤ l.length
    omega
theorem DRow.one {W : World} {base : Nat} {vn vu vt vr : Value} {d : Dat} (h : DRow W base vn vu vt vr d) : vn.oneCell' = true ∧ vu.oneCell' = true ∧ vt.oneCell' = true ∧ vr.oneCell' = true := by
  obtain ⟨⟨vs, k1, k2, k3⟩, i1, i2, i3⟩ := h
  obtain ⟨_, _, rfl⟩ := k1.shape; obtain ⟨_, _, rfl⟩ := i1.shape; obtain ⟨_, _, rfl⟩ := i2.shape; obtain ⟨_, _, rfl⟩ := i3.shape
  exact ⟨rfl, rfl, rfl, rfl⟩
end Go.Proofs.YtckammgnmgkieaaGreat

/-
  A look's answer in memory; what stays of it while all from a mark on does.
-/
namespace Go.Proofs.YtckammgnmgkieaaGreat
set_option maxRecDepth 20000
open Go.RowKit Go.Shelf
set_option maxRecDepth 20000
set_option linter.unusedVariables false
set_option linter.unusedSimpArgs false
theorem FarKeep.refl (n : Nat) (W : World) : FarKeep n W W := fun _ _ _ => rfl
theorem FarKeep.trans {n : Nat} {a b c : World} (h : FarKeep n a b) (hs : a.heap.size ≤ b.heap.size) (g : FarKeep n b c) : FarKeep n a c := fun i h1 h2 => (g i h1 (Nat.lt_of_lt_of_le h2 hs)).trans (h i h1 h2)
theorem FarKeep.of_below {n : Nat} {a b : World} (h : Below a.heap.size a b) : FarKeep n a b := fun i _ h2 => h.block i h2
theorem FarKeep.set {n : Nat} (W : World) (B j : Nat) (v : Value) (hB : B < n) : FarKeep n W (W.setCell ⟨B, j, none⟩ v) := fun i h1 h2 => (grownBy_set W B j v).block i h2 (fun e => by injection e; omega)
theorem DRow.move {W W' : World} {base : Nat} {vn vu vt vr : Value} {d : Dat} (h : DRow W base vn vu vt vr d) (hf : FarKeep base W W') : DRow W' base vn vu vt vr d := by
  obtain ⟨⟨vs, k1, k2, k3⟩, i1, i2, i3⟩ := h
  exact ⟨⟨vs, k1.move hf, k2, fun i a b => (k3 i a b).move hf⟩, i1.move hf, i2.move hf, i3.move hf⟩
theorem FrSet.move {W W' : World} {base : Nat} {cs : List Value} {s : St} (h : FrSet W base cs s) (hf : FarKeep base W W') : FrSet W' base cs s := by
  obtain ⟨x0, x3, ds, e, h1, h2, h3, h4⟩ := h
  refine ⟨x0, x3, ds, e, h1.move hf, OwnK.move h2 hf, h3, fun j a b => ?_⟩
  obtain ⟨vn, vu, vt, vr, e2, h6⟩ := h4 j a b
  exact ⟨vn, vu, vt, vr, e2, h6.move hf⟩
theorem OwnNms.move {W W' : World} {base : Nat} {v : Value} {ns : List Nm} (h : OwnNms W base v ns) (hf : FarKeep base W W') : OwnNms W' base v ns := by
  obtain ⟨vs, h1, h2, h3⟩ := h
  exact ⟨vs, h1.move hf, h2, fun j a b => (h3 j a b).move hf⟩
def slW (x : Option Addr × Nat × Nat) : Value := .slice x.1 x.2.1 x.2.2
def DtsR (W : World) (v : Value) (l : List Dat) : Prop := ∃ ds, SlK W v ds ∧ Dts W ds l
theorem DtsR.below {W W' : World} {v : Value} {l : List Dat} (h : DtsR W v l) (hb : Below W.heap.size W W') : DtsR W' v l := by
  obtain ⟨ds, h1, h2⟩ := h
  exact ⟨ds, h1.below hb, h2.1, fun j a b => ⟨(h2.2 j a b).1, (h2.2 j a b).2.below hb⟩⟩
theorem DtsR.nil (W : World) : DtsR W (.slice none 0 0) [] := ⟨[], SlK.nil W, rfl, fun j a => absurd a (by simp)⟩
def GlR (W : World) (v : Value) (l : List (Nm × List Dat)) : Prop := ∃ css : List (List Value), SlK W v css ∧ css.length = l.length ∧
  ∀ j (h1 : j < css.length) (h2 : j < l.length), ∃ x0 x1 : Option Addr × Nat × Nat, css[j] = [slW x0, slW x1] ∧ NmAt W (slW x0) l[j].1 ∧ DtsR W (slW x1) l[j].2
theorem GlR.below {W W' : World} {v : Value} {l : List (Nm × List Dat)} (h : GlR W v l) (hb : Below W.heap.size W W') : GlR W' v l := by
  obtain ⟨css, h1, h2, h3⟩ := h
  refine ⟨css, h1.below hb, h2, fun j a b => ?_⟩
  obtain ⟨x0, x1, e, k1, k2⟩ := h3 j a b
  exact ⟨x0, x1, e, k1.below hb, k2.below hb⟩
theorem GlR.nil (W : World) : GlR W (.slice none 0 0) [] := ⟨[], SlK.nil W, rfl, fun j a => absurd a (by simp)⟩
def LkAt (W : World) (cs : List Value) (r : Lk) : Prop := ∃ xd xn xg : Option Addr × Nat × Nat, cs = [.int .i64 r.kind, slW xd, slW xn, .bool r.wild, slW xg] ∧ DtsR W (slW xd) r.data ∧ NmAt W (slW xn) r.name ∧ GlR W (slW xg) r.glue
theorem LkAt.below {W W' : World} {cs : List Value} {r : Lk} (h : LkAt W cs r) (hb : Below W.heap.size W W') : LkAt W' cs r := by
  obtain ⟨xd, xn, xg, e, h1, h2, h3⟩ := h
  exact ⟨xd, xn, xg, e, h1.below hb, h2.below hb, h3.below hb⟩
theorem lkAt_bare (W : World) (k : Int) (b : Bool) : LkAt W [.int .i64 k, .slice none 0 0, .slice none 0 0, .bool b, .slice none 0 0] ⟨k, [], [], b, []⟩ :=
  ⟨(none, 0, 0), (none, 0, 0), (none, 0, 0), rfl, DtsR.nil W, (OwnG.nmAt (OwnG.nil W 0) : NmAt W (.slice none 0 0) []), GlR.nil W⟩
def LkPost (N : Nat) (w : World) (r : Lk) (e : Ending) (w' : World) : Prop := ∃ cs, e = .returned (.agg cs.toArray) ∧ (∀ W', FarKeep N w' W' → LkAt W' cs r) ∧ Below w.heap.size w w'
theorem FrSet.dtsR {W : World} {base : Nat} {x0 x3 : Option Addr × Nat × Nat} {y t : Int} {s : St} (h : FrSet W base [slW x0, .int .i64 y, .int .u32 t, slW x3] s) : DtsR W (slW x3) s.data := by
  obtain ⟨z0, z3, ds, e, q1, q2, q3, q4⟩ := h
  simp only [List.cons.injEq, and_true] at e
  obtain ⟨-, -, -, e3⟩ := e
  have e3 : slW x3 = .slice z3.1 z3.2.1 z3.2.2 := e3
  rw [e3]
  have hD : Dts W ds s.data := ⟨q3, fun i h1 h2 => by
    obtain ⟨vn, vu, vt, vr, e2, h6⟩ := q4 i h1 h2
    rw [e2]; exact ⟨rfl, h6.datAt⟩⟩
  exact ⟨ds, SlK.of_own q2 hD.ck, hD⟩
theorem DtsR.first {W : World} {b off n c : Nat} {l : List Dat} (h : DtsR W (.slice (some ⟨b, off, none⟩) n c) l) (h0 : 0 < l.length) : DtsR W (.slice (some ⟨b, off, none⟩) 1 1) (l.take 1) := by
  obtain ⟨ds, ⟨a', c', e, h1, h2, h3⟩, h4⟩ := h
  injection e with e1 e2 e3
  have hd : 0 < ds.length := by rw [h4.1]; exact h0
  have hl : (ds.take 1).length = 1 := by rw [List.length_take]; omega
  refine ⟨ds.take 1, ⟨some ⟨b, off, none⟩, 1, by rw [hl], by rw [hl]; exact Nat.le_refl _, (fun e => by cases e), ?_⟩, (by rw [hl, List.length_take]; omega), fun j a1 a2 => ?_⟩
  · rcases h3 with h3 | ⟨b', off', e4, h5, h6⟩
    · subst h3; simp at hd
    · refine .inr ⟨b, off, rfl, ?_, fun j u hu => ?_⟩
      · rw [e4] at e1; injection e1 with e1; injection e1 with e5 e6; rw [e5]; exact h5
      · rw [e4] at e1; injection e1 with e1; injection e1 with e5 e6
        rw [e5, e6]
        apply h6
        have hp : (ds.take 1).flatten <+: ds.flatten := by
          conv => rhs; rw [← List.take_append_drop 1 ds, List.flatten_append]
          exact List.prefix_append _ _
        obtain ⟨t, ht⟩ := hp
        rw [← ht, List.getElem?_append_left (List.getElem?_eq_some_iff.1 hu).1]; exact hu
  · have q := h4.2 j (by rw [List.length_take] at a1; omega) (by rw [List.length_take] at a2; omega)
    simp only [List.getElem_take]
    exact q
theorem results_lk {fn : Func} {t : Tmp} (h : fn.results = #[.cell t 84]) (tmps : Array Value) (W : World) {a : Nat} {x0 x1 x2 x3 x4 : Value} (h0 : x0.oneCell' = true) (h1 : x1.oneCell' = true) (h2 : x2.oneCell' = true) (h3 : x3.oneCell' = true) (h4 : x4.oneCell' = true)
    (ht : tmps.getD t undef = .pointer (some ⟨a, 0, none⟩)) (y0 : W.cell? ⟨a, 0, none⟩ = some x0) (y1 : W.cell? ⟨a, 1, none⟩ = some x1) (y2 : W.cell? ⟨a, 2, none⟩ = some x2) (y3 : W.cell? ⟨a, 3, none⟩ = some x3) (y4 : W.cell? ⟨a, 4, none⟩ = some x4) : (results fn tmps).run Tryz.prog W = .ok (.agg #[x0, x1, x2, x3, x4]) W := by
  have ht' : tmps[t]?.getD undef = .pointer (some ⟨a, 0, none⟩) := by rw [← ht]; simp
  have hu : ∀ w, Sem.run Tryz.prog (underlying 84) w = .ok _ w := run_underlying Tryz.underlying84
  simp [results, h, ht', loadVar, asAddr, go_sem, hu, y0, y1, y2, y3, y4, isAgg]
def put5 (W : World) (B : Nat) (v0 v1 v2 v3 v4 : Value) : World := ((((W.setCell ⟨B, 0, none⟩ v0).setCell ⟨B, 1, none⟩ v1).setCell ⟨B, 2, none⟩ v2).setCell ⟨B, 3, none⟩ v3).setCell ⟨B, 4, none⟩ v4
theorem put5_box {W : World} {B : Nat} {z0 z1 z2 z3 z4 : Value} (h : W.heap[B]? = some (.cells #[z0, z1, z2, z3, z4] 84)) (v0 v1 v2 v3 v4 : Value) : (put5 W B v0 v1 v2 v3 v4).heap[B]? = some (.cells #[v0, v1, v2, v3, v4] 84) := by
  have q0 := kset h 0 v0
  have q1 := kset q0 1 v1
  have q2 := kset q1 2 v2
  have q3 := kset q2 3 v3
  exact kset q3 4 v4
theorem put5_grown (W : World) (B : Nat) (v0 v1 v2 v3 v4 : Value) : W.grownBy (put5 W B v0 v1 v2 v3 v4) (some B) := by
  have g0 := grownBy_set W B 0 v0
  have g1 := grownBy_set (W.setCell ⟨B, 0, none⟩ v0) B 1 v1
  have g2 := grownBy_set ((W.setCell ⟨B, 0, none⟩ v0).setCell ⟨B, 1, none⟩ v1) B 2 v2
  have g3 := grownBy_set (((W.setCell ⟨B, 0, none⟩ v0).setCell ⟨B, 1, none⟩ v1).setCell ⟨B, 2, none⟩ v2) B 3 v3
  have g4 := grownBy_set ((((W.setCell ⟨B, 0, none⟩ v0).setCell ⟨B, 1, none⟩ v1).setCell ⟨B, 2, none⟩ v2).setCell ⟨B, 3, none⟩ v3) B 4 v4
  have tr : ∀ {a b c : World}, a.grownBy b (some B) → b.grownBy c (some B) → a.grownBy c (some B) := fun h g =>
    ⟨g.os.trans h.os, g.tape.trans h.tape, g.output.trans h.output, Nat.le_trans h.size g.size, fun i hi hne => (g.block i (Nat.lt_of_lt_of_le hi h.size) hne).trans (h.block i hi hne)⟩
  exact tr (tr (tr (tr g0 g1) g2) g3) g4
theorem put5_below {n : Nat} {w W : World} (h : Below n w W) {B : Nat} (hB : n ≤ B) (v0 v1 v2 v3 v4 : Value) : Below n w (put5 W B v0 v1 v2 v3 v4) :=
  ((((h.setCell (p := ⟨B, 0, none⟩) hB _).setCell (p := ⟨B, 1, none⟩) hB _).setCell (p := ⟨B, 2, none⟩) hB _).setCell (p := ⟨B, 3, none⟩) hB _).setCell (p := ⟨B, 4, none⟩) hB _
theorem put5_far {n : Nat} (W : World) {B : Nat} (hB : B < n) (v0 v1 v2 v3 v4 : Value) : FarKeep n W (put5 W B v0 v1 v2 v3 v4) := fun i h1 h2 => (put5_grown W B v0 v1 v2 v3 v4).block i h2 (fun e => by injection e; omega)
theorem lk_fin {fn : Func} {t : Tmp} (h : fn.results = #[.cell t 84]) (tmps : Array Value) {W : World} {a : Nat} {z0 z1 z2 z3 z4 x0 x1 x2 x3 x4 : Value} (hx : W.heap[a]? = some (.cells #[z0, z1, z2, z3, z4] 84)) (h0 : x0.oneCell' = true) (h1 : x1.oneCell' = true) (h2 : x2.oneCell' = true) (h3 : x3.oneCell' = true) (h4 : x4.oneCell' = true)
    (ht : tmps.getD t undef = .pointer (some ⟨a, 0, none⟩)) : (results fn tmps).run Tryz.prog (put5 W a x0 x1 x2 x3 x4) = .ok (.agg #[x0, x1, x2, x3, x4]) (put5 W a x0 x1 x2 x3 x4) := by
  have hb := put5_box hx x0 x1 x2 x3 x4
  exact results_lk h tmps _ h0 h1 h2 h3 h4 ht (kcell hb 0 _ rfl) (kcell hb 1 _ rfl) (kcell hb 2 _ rfl) (kcell hb 3 _ rfl) (kcell hb 4 _ rfl)
end Go.Proofs.YtckammgnmgkieaaGreat

