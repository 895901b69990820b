/-
  A look's answer in memory; what stays of it while all from a mark on does.
-/
import Derived.Test.YtckammgnmgkieaaGreatMQ14
import Derived.Test.YtckammgnmgkieaaGreatMQ39
import Derived.Test.YtckammgnmgkieaaGreatMQ40
import Derived.Test.YtckammgnmgkieaaGreatMQ33
import Derived.Test.YtckammgnmgkieaaGreatMQ41
import Derived.Test.YtckammgnmgkieaaGreatMQ19
import Derived.Test.YtckammgnmgkieaaGreatMQ04
import Derived.Test.YtckammgnmgkieaaGreatMQ36
import Derived.Test.YtckammgnmgkieaaGreatMQ30
import Derived.Test.YtckammgnmgkieaaGreatMQ06
import Derived.Test.YtckammgnmgkieaaGreatMQ24
namespace Go.Proofs.YtckammgnmgkieaaGreat
set_option maxRecDepth 20000
open Go.RowKit Go.Shelf
set_option maxRecDepth 20000
set_option linter.unusedVariables false
set_option linter.unusedSimpArgs false
theorem FarKeep.refl (n : Nat) (W : World) : FarKeep n W W := fun _ _ _ => rfl
theorem FarKeep.trans {n : Nat} {a b c : World} (h : FarKeep n a b) (hs : a.heap.size ≤ b.heap.size) (g : FarKeep n b c) : FarKeep n a c := fun i h1 h2 => (g i h1 (Nat.lt_of_lt_of_le h2 hs)).trans (h i h1 h2)
theorem FarKeep.of_below {n : Nat} {a b : World} (h : Below a.heap.size a b) : FarKeep n a b := fun i _ h2 => h.block i h2
theorem FarKeep.set {n : Nat} (W : World) (B j : Nat) (v : Value) (hB : B < n) : FarKeep n W (W.setCell ⟨B, j, none⟩ v) := fun i h1 h2 => (grownBy_set W B j v).block i h2 (fun e => by injection e; omega)
theorem DRow.move {W W' : World} {base : Nat} {vn vu vt vr : Value} {d : Dat} (h : DRow W base vn vu vt vr d) (hf : FarKeep base W W') : DRow W' base vn vu vt vr d := by
  obtain ⟨⟨vs, k1, k2, k3⟩, i1, i2, i3⟩ := h
  exact ⟨⟨vs, k1.move hf, k2, fun i a b => (k3 i a b).move hf⟩, i1.move hf, i2.move hf, i3.move hf⟩
theorem FrSet.move {W W' : World} {base : Nat} {cs : List Value} {s : St} (h : FrSet W base cs s) (hf : FarKeep base W W') : FrSet W' base cs s := by
  obtain ⟨x0, x3, ds, e, h1, h2, h3, h4⟩ := h
  refine ⟨x0, x3, ds, e, h1.move hf, OwnK.move h2 hf, h3, fun j a b => ?_⟩
  obtain ⟨vn, vu, vt, vr, e2, h6⟩ := h4 j a b
  exact ⟨vn, vu, vt, vr, e2, h6.move hf⟩
theorem OwnNms.move {W W' : World} {base : Nat} {v : Value} {ns : List Nm} (h : OwnNms W base v ns) (hf : FarKeep base W W') : OwnNms W' base v ns := by
  obtain ⟨vs, h1, h2, h3⟩ := h
  exact ⟨vs, h1.move hf, h2, fun j a b => (h3 j a b).move hf⟩
def slW (x : Option Addr × Nat × Nat) : Value := .slice x.1 x.2.1 x.2.2
def DtsR (W : World) (v : Value) (l : List Dat) : Prop := ∃ ds, SlK W v ds ∧ Dts W ds l
theorem DtsR.below {W W' : World} {v : Value} {l : List Dat} (h : DtsR W v l) (hb : Below W.heap.size W W') : DtsR W' v l := by
  obtain ⟨ds, h1, h2⟩ := h
  exact ⟨ds, h1.below hb, h2.1, fun j a b => ⟨(h2.2 j a b).1, (h2.2 j a b).2.below hb⟩⟩
theorem DtsR.nil (W : World) : DtsR W (.slice none 0 0) [] := ⟨[], SlK.nil W, rfl, fun j a => absurd a (by simp)⟩
def GlR (W : World) (v : Value) (l : List (Nm × List Dat)) : Prop := ∃ css : List (List Value), SlK W v css ∧ css.length = l.length ∧
  ∀ j (h1 : j < css.length) (h2 : j < l.length), ∃ x0 x1 : Option Addr × Nat × Nat, css[j] = [slW x0, slW x1] ∧ NmAt W (slW x0) l[j].1 ∧ DtsR W (slW x1) l[j].2
theorem GlR.below {W W' : World} {v : Value} {l : List (Nm × List Dat)} (h : GlR W v l) (hb : Below W.heap.size W W') : GlR W' v l := by
  obtain ⟨css, h1, h2, h3⟩ := h
  refine ⟨css, h1.below hb, h2, fun j a b => ?_⟩
  obtain ⟨x0, x1, e, k1, k2⟩ := h3 j a b
  exact ⟨x0, x1, e, k1.below hb, k2.below hb⟩
theorem GlR.nil (W : World) : GlR W (.slice none 0 0) [] := ⟨[], SlK.nil W, rfl, fun j a => absurd a (by simp)⟩
def LkAt (W : World) (cs : List Value) (r : Lk) : Prop := ∃ xd xn xg : Option Addr × Nat × Nat, cs = [.int .i64 r.kind, slW xd, slW xn, .bool r.wild, slW xg] ∧ DtsR W (slW xd) r.data ∧ NmAt W (slW xn) r.name ∧ GlR W (slW xg) r.glue
theorem LkAt.below {W W' : World} {cs : List Value} {r : Lk} (h : LkAt W cs r) (hb : Below W.heap.size W W') : LkAt W' cs r := by
  obtain ⟨xd, xn, xg, e, h1, h2, h3⟩ := h
  exact ⟨xd, xn, xg, e, h1.below hb, h2.below hb, h3.below hb⟩
theorem DtsR.first {W : World} {b off n c : Nat} {l : List Dat} (h : DtsR W (.slice (some ⟨b, off, none⟩) n c) l) (h0 : 0 < l.length) : DtsR W (.slice (some ⟨b, off, none⟩) 1 1) (l.take 1) := by
  obtain ⟨ds, ⟨a', c', e, h1, h2, h3⟩, h4⟩ := h
  injection e with e1 e2 e3
  have hd : 0 < ds.length := by rw [h4.1]; exact h0
  have hl : (ds.take 1).length = 1 := by rw [List.length_take]; omega
  refine ⟨ds.take 1, ⟨some ⟨b, off, none⟩, 1, by rw [hl], by rw [hl]; exact Nat.le_refl _, (fun e => by cases e), ?_⟩, (by rw [hl, List.length_take]; omega), fun j a1 a2 => ?_⟩
  · rcases h3 with h3 | ⟨b', off', e4, h5, h6⟩
    · subst h3; simp at hd
    · refine .inr ⟨b, off, rfl, ?_, fun j u hu => ?_⟩
      · rw [e4] at e1; injection e1 with e1; injection e1 with e5 e6; rw [e5]; exact h5
      · rw [e4] at e1; injection e1 with e1; injection e1 with e5 e6
        rw [e5, e6]
        apply h6
        have hp : (ds.take 1).flatten <+: ds.flatten := by
          conv => rhs; rw [← List.take_append_drop 1 ds, List.flatten_append]
          exact List.prefix_append _ _
        obtain ⟨t, ht⟩ := hp
        rw [← ht, List.getElem?_append_left (List.getElem?_eq_some_iff.1 hu).1]; exact hu
  · have q := h4.2 j (by rw [List.length_take] at a1; omega) (by rw [List.length_take] at a2; omega)
    simp only [List.getElem_take]
    exact q
end Go.Proofs.YtckammgnmgkieaaGreat

/-
  zone.Glue once more: all that it makes lies behind what was there. (Written by wip/tools/genlokg.py.)
-/
namespace Go.Proofs.YtckammgnmgkieaaGreat
set_option maxRecDepth 20000
open Go.RowKit Go.Shelf
set_option maxRecDepth 20000
set_option linter.unusedVariables false
set_option linter.unusedSimpArgs false
def OwnDts (W : World) (base : Nat) (v : Value) (l : List Dat) : Prop := ∃ ds : List (List Value), OwnC 5 101 W base v ds ∧ ds.length = l.length ∧
  ∀ j (h1 : j < ds.length) (h2 : j < l.length), ∃ vn vu vt vr, ds[j] = [.int .i64 l[j].ty, vn, vu, vt, vr] ∧ DRow W base vn vu vt vr l[j]
theorem DRow.weaken {W : World} {base b2 : Nat} {vn vu vt vr : Value} {d : Dat} (h : DRow W base vn vu vt vr d) (hb : b2 ≤ base) : DRow W b2 vn vu vt vr d := by
  obtain ⟨⟨vs, k1, k2, k3⟩, i1, i2, i3⟩ := h
  exact ⟨⟨vs, k1.weaken hb, k2, fun i a b => (k3 i a b).weaken hb⟩, i1.weaken hb, i2.weaken hb, i3.weaken hb⟩
theorem OwnDts.weaken {W : World} {base b2 : Nat} {v : Value} {l : List Dat} (h : OwnDts W base v l) (hb : b2 ≤ base) : OwnDts W b2 v l := by
  obtain ⟨ds, h1, h2, h3⟩ := h
  refine ⟨ds, OwnK.weaken h1 hb, h2, fun j a b => ?_⟩
  obtain ⟨vn, vu, vt, vr, e, k⟩ := h3 j a b
  exact ⟨vn, vu, vt, vr, e, k.weaken hb⟩
theorem OwnK.kept_cc {k k2 : Nat} {T T' : TypeId} {W W' : World} {base base' : Nat} {v v' : Value} {xss yss : List (List Value)} (h : OwnC k T W base v xss) (h' : OwnC k2 T' W base' v' yss) (hT : T ≠ T') (hg : W.grownBy W' v'.ownBlock) : OwnC k T W' base v xss := by
  refine OwnK.kept h hg ?_
  rcases h.2 with ⟨rfl, _⟩ | ⟨g, cap, cur, rfl, _, hh, _⟩
  · left; rfl
  · right
    rcases h'.2 with ⟨rfl, _⟩ | ⟨g', cap', cur', rfl, _, hh', _⟩
    · simp [Value.ownBlock]
    · intro e
      simp only [Value.ownBlock, Option.some.injEq] at e
      subst e
      rw [hh] at hh'
      injection hh' with hh'
      injection hh' with _ hh'
      exact hT hh'
theorem OwnDts.move {W W' : World} {base : Nat} {v : Value} {l : List Dat} (h : OwnDts W base v l) (hf : FarKeep base W W') : OwnDts W' base v l := by
  obtain ⟨ds, h1, h2, h3⟩ := h
  refine ⟨ds, OwnK.move h1 hf, h2, fun j a b => ?_⟩
  obtain ⟨vn, vu, vt, vr, e, k⟩ := h3 j a b
  exact ⟨vn, vu, vt, vr, e, k.move hf⟩
end Go.Proofs.YtckammgnmgkieaaGreat

/-
  The document's sets: rows of sets that grow.
-/
namespace Go.Proofs.YtckammgnmgkieaaGreat
set_option maxRecDepth 20000
open Go.RowKit Go.Shelf
set_option maxRecDepth 20000
set_option linter.unusedVariables false
set_option linter.unusedSimpArgs false
theorem elem_refS : ElemK 4 41 32 64 := ⟨Tryz.underlying32, _, _, rfl, rfl, rfl, rfl, rfl⟩
theorem refSets_snoc (c : List Rc) (x : Rc) : refSets (c ++ [x]) = stepS (refSets c) x := by
  unfold refSets
  rw [List.foldl_append]; rfl
theorem refSets_own (c : List Rc) : ∀ s ∈ refSets c, ∃ r ∈ c, s.owner = r.owner :=
  list_snoc_ind (P := fun c => ∀ s ∈ refSets c, ∃ r ∈ c, s.owner = r.owner) (fun s h => by simp [refSets] at h) (fun c x ih s h => by
    rw [refSets_snoc] at h
    rcases List.eq_nil_or_concat (refSets c) with e | ⟨pre, t, e⟩
    · rw [e] at h
      simp only [stepS, List.getLast?_nil, List.nil_append, List.mem_singleton] at h
      exact ⟨x, by simp, by rw [h]; rfl⟩
    · rw [e, List.concat_eq_append, stepS_snoc] at h
      have ht : ∃ r ∈ c ++ [x], t.owner = r.owner := by
        obtain ⟨r, h1, h2⟩ := ih t (by rw [e]; simp)
        exact ⟨r, by simp [h1], h2⟩
      have hp : ∀ s ∈ pre, ∃ r ∈ c ++ [x], s.owner = r.owner := fun s hs => by
        obtain ⟨r, h1, h2⟩ := ih s (by rw [e]; simp [hs])
        exact ⟨r, by simp [h1], h2⟩
      split at h
      · rcases List.mem_append.1 h with h | h
        · exact hp s h
        · rw [List.mem_singleton] at h; rw [h]; exact ht
      · rcases List.mem_append.1 h with h | h
        · rcases List.mem_append.1 h with h | h
          · exact hp s h
          · rw [List.mem_singleton] at h; rw [h]; exact ht
        · rw [List.mem_singleton] at h
          exact ⟨x, by simp, by rw [h]; rfl⟩) c
theorem OwnC.putK {K : Nat} {T : TypeId} {W : World} {base g n c : Nat} {css : List (List Value)} (h : OwnC K T W base (.slice (some ⟨g, 0, none⟩) n c) css) (hk : ∀ cs ∈ css, cs.length = K) (k : Nat) (hlt : k < css.length) (t : Nat) (ht : t < K) (u : Value) :
    OwnC K T (W.setCell ⟨g, k * K + t, none⟩ u) base (.slice (some ⟨g, 0, none⟩) n c) (css.set k (css[k].set t u)) := by
  obtain ⟨hl, h⟩ := h
  rcases h with ⟨e, _⟩ | ⟨g', cap, cur, e, hb, hg, hc, hm, hsz, htk⟩
  · cases e
  · cases e
    have hfl : ((css.set k (css[k].set t u)).flatMap fun cs => cs) = (css.flatMap fun cs => cs).set (k * K + t) u := by
      rw [flat_id, flat_id, flatten_set K t u ht css hk k hlt]
    refine ⟨by rw [hfl, List.length_set, List.length_set]; exact hl, .inr ⟨g, c, cur.setIfInBounds (k * K + t) u, by rw [List.length_set], hb, kset hg _ u, by rw [List.length_set]; exact hc, hm, by simpa using hsz, ?_⟩⟩
    rw [hfl, List.length_set, ← htk, Array.toList_setIfInBounds]
    rw [List.take_set]
theorem OwnC.someK {K : Nat} {T : TypeId} {W : World} {base n c : Nat} {ga : Option Addr} {css : List (List Value)} (h : OwnC K T W base (.slice ga n c) css) (h0 : 0 < css.length) : ∃ g cur, ga = some ⟨g, 0, none⟩ ∧ base ≤ g ∧ W.heap[g]? = some (.cells cur T) ∧ n ≤ c := by
  obtain ⟨hl, h⟩ := h
  rcases h with ⟨e, e2⟩ | ⟨g', cap, cur, e, hb, hg, hc, hm, hsz, htk⟩
  · cases e; omega
  · cases e; exact ⟨g', cur, rfl, hb, hg, hc⟩
theorem own_one {K : Nat} {T : TypeId} (W : World) {cs : List Value} (hl : cs.length = K) : OwnC K T (W.alloc (.cells cs.toArray T)) W.heap.size (.slice (some ⟨W.heap.size, 0, none⟩) 1 1) [cs] :=
  ⟨by simp [hl], .inr ⟨W.heap.size, 1, cs.toArray, rfl, Nat.le_refl _, heap_alloc_new W _, Nat.le_refl _, by unfold maxLen; omega, by simp [hl], by subst hl; simp⟩⟩
theorem Dts.snoc {W : World} {ds : List (List Value)} {l : List Dat} {cs : List Value} {d : Dat} (h : Dts W ds l) (hl : cs.length = 5) (hd : DatAt W (.agg cs.toArray) d) : Dts W (ds ++ [cs]) (l ++ [d]) := by
  refine ⟨by simp [h.1], fun j a b => ?_⟩
  by_cases hj : j < ds.length
  · rw [List.getElem_append_left hj, List.getElem_append_left (by have := h.1; omega)]
    exact h.2 j hj (by have := h.1; omega)
  · obtain rfl : j = ds.length := by simp at a; omega
    have e1 : (ds ++ [cs])[ds.length]'a = cs := by simp
    have e2 : (l ++ [d])[ds.length]'b = d := by simp [h.1]
    rw [e1, e2]
    exact ⟨hl, hd⟩
theorem Dts.nil (W : World) : Dts W [] [] := ⟨rfl, fun j h => absurd h (by simp)⟩
def RSet (w0 W : World) (base : Nat) (cs : List Value) (s : St) : Prop := ∃ (x0 x3 : Option Addr × Nat × Nat) (ds : List (List Value)), cs = [slW x0, .int .i64 s.ty, .int .u32 (s.ttl : Int), slW x3] ∧ NmAt w0 (slW x0) s.owner ∧ OwnC 5 107 W base (slW x3) ds ∧ Dts w0 ds s.data
theorem RSet.below {w0 W W' : World} {base : Nat} {cs : List Value} {s : St} (h : RSet w0 W base cs s) (hb : Below W.heap.size W W') : RSet w0 W' base cs s := by
  obtain ⟨x0, x3, ds, e, h1, h2, h3⟩ := h
  exact ⟨x0, x3, ds, e, h1, OwnK.below h2 hb, h3⟩
theorem RSet.grown {w0 W W' : World} {base base' : Nat} {cs : List Value} {s : St} {v' : Value} {yss : List (List Value)} (h : RSet w0 W base cs s) (h' : OwnC 4 41 W base' v' yss) (hg : W.grownBy W' v'.ownBlock) : RSet w0 W' base cs s := by
  obtain ⟨x0, x3, ds, e, h1, h2, h3⟩ := h
  exact ⟨x0, x3, ds, e, h1, OwnK.kept_cc h2 h' (by decide) hg, h3⟩
theorem RSet.put {w0 W : World} {base : Nat} {cs : List Value} {s : St} (h : RSet w0 W base cs s) {B : Nat} {xs : Array Value} (hB : W.heap[B]? = some (.cells xs 41)) (j : Nat) (u : Value) : RSet w0 (W.setCell ⟨B, j, none⟩ u) base cs s := by
  obtain ⟨x0, x3, ds, e, h1, h2, h3⟩ := h
  exact ⟨x0, x3, ds, e, h1, OwnK.keptB h2 hB (by decide) j u, h3⟩
def RSets (w0 W : World) (base : Nat) (css : List (List Value)) (l : List St) : Prop := css.length = l.length ∧ ∀ j (h1 : j < css.length) (h2 : j < l.length), RSet w0 W base css[j] l[j]
theorem RSets.nil (w0 W : World) (base : Nat) : RSets w0 W base [] [] := ⟨rfl, fun j h => absurd h (by simp)⟩
theorem RSets.below {w0 W W' : World} {base : Nat} {css : List (List Value)} {l : List St} (h : RSets w0 W base css l) (hb : Below W.heap.size W W') : RSets w0 W' base css l := ⟨h.1, fun j a b => (h.2 j a b).below hb⟩
theorem RSets.grown {w0 W W' : World} {base base' : Nat} {css : List (List Value)} {l : List St} {v' : Value} {yss : List (List Value)} (h : RSets w0 W base css l) (h' : OwnC 4 41 W base' v' yss) (hg : W.grownBy W' v'.ownBlock) : RSets w0 W' base css l := ⟨h.1, fun j a b => (h.2 j a b).grown h' hg⟩
theorem RSets.put {w0 W : World} {base : Nat} {css : List (List Value)} {l : List St} (h : RSets w0 W base css l) {B : Nat} {xs : Array Value} (hB : W.heap[B]? = some (.cells xs 41)) (j : Nat) (u : Value) : RSets w0 (W.setCell ⟨B, j, none⟩ u) base css l := ⟨h.1, fun i a b => (h.2 i a b).put hB j u⟩
theorem RSets.len4 {w0 W : World} {base : Nat} {css : List (List Value)} {l : List St} (h : RSets w0 W base css l) : ∀ cs ∈ css, cs.length = 4 := fun cs hc => by
  obtain ⟨i, hi, rfl⟩ := List.mem_iff_getElem.1 hc
  obtain ⟨_, _, _, e, _⟩ := h.2 i hi (by have := h.1; omega)
  rw [e]; rfl
theorem RSets.snoc {w0 W : World} {base : Nat} {css : List (List Value)} {l : List St} {cs : List Value} {s : St} (h : RSets w0 W base css l) (hs : RSet w0 W base cs s) : RSets w0 W base (css ++ [cs]) (l ++ [s]) := by
  refine ⟨by simp [h.1], fun j a b => ?_⟩
  by_cases hj : j < css.length
  · rw [List.getElem_append_left hj, List.getElem_append_left (by have := h.1; omega)]
    exact h.2 j hj (by have := h.1; omega)
  · obtain rfl : j = css.length := by simp at a; omega
    have e1 : (css ++ [cs])[css.length]'a = cs := by simp
    have e2 : (l ++ [s])[css.length]'b = s := by simp [h.1]
    rw [e1, e2]; exact hs
theorem RSets.set {w0 W : World} {base : Nat} {css : List (List Value)} {l : List St} (h : RSets w0 W base css l) (k : Nat) {cs : List Value} {s : St} (hs : RSet w0 W base cs s) : RSets w0 W base (css.set k cs) (l.set k s) := by
  refine ⟨by simp [h.1], fun j a b => ?_⟩
  rw [List.length_set] at a b
  rw [List.getElem_set, List.getElem_set]
  by_cases hj : k = j
  · rw [if_pos hj, if_pos hj]; exact hs
  · rw [if_neg hj, if_neg hj]; exact h.2 j a b
theorem set_lastS {α : Type} (pre : List α) (s t : α) : (pre ++ [s]).set pre.length t = pre ++ [t] := by
  rw [List.set_append_right _ _ (Nat.le_refl _)]; simp
theorem one4 {a b c d : Value} (ha : a.oneCell' = true) (hb : b.oneCell' = true) (hc : c.oneCell' = true) (hd : d.oneCell' = true) : ∀ cs ∈ [[a, b, c, d]], ∀ u ∈ cs, u.oneCell' = true := by
  intro cs hcs u hu
  rw [List.mem_singleton] at hcs; subst hcs
  simp only [List.mem_cons, List.not_mem_nil, or_false] at hu
  rcases hu with rfl | rfl | rfl | rfl <;> assumption
theorem one5 {a b c d e : Value} (ha : a.oneCell' = true) (hb : b.oneCell' = true) (hc : c.oneCell' = true) (hd : d.oneCell' = true) (he : e.oneCell' = true) : ∀ cs ∈ [[a, b, c, d, e]], ∀ u ∈ cs, u.oneCell' = true := by
  intro cs hcs u hu
  rw [List.mem_singleton] at hcs; subst hcs
  simp only [List.mem_cons, List.not_mem_nil, or_false] at hu
  rcases hu with rfl | rfl | rfl | rfl | rfl <;> assumption
theorem lenS (a b c d : Value) : ∀ cs ∈ [[a, b, c, d]], cs.length = 4 := by
  intro cs hcs; rw [List.mem_singleton] at hcs; subst hcs; rfl
theorem lenD (a b c d e : Value) : ∀ cs ∈ [[a, b, c, d, e]], cs.length = 5 := by
  intro cs hcs; rw [List.mem_singleton] at hcs; subst hcs; rfl
theorem dts_one {W : World} {ds : List (List Value)} {l : List Dat} (h : Dts W ds l) : ∀ cs ∈ ds, ∀ u ∈ cs, u.oneCell' = true := by
  intro cs hc u hu
  obtain ⟨i, hi, rfl⟩ := List.mem_iff_getElem.1 hc
  obtain ⟨x3, x4, x5, x6, e⟩ := dt_shape (h.2 i hi (by have := h.1; omega)).2
  rw [e] at hu
  simp only [List.mem_cons, List.not_mem_nil, or_false] at hu
  rcases hu with rfl | rfl | rfl | rfl | rfl <;> rfl
theorem dts_len {W : World} {ds : List (List Value)} {l : List Dat} (h : Dts W ds l) : ∀ cs ∈ ds, cs.length = 5 := by
  intro cs hc
  obtain ⟨i, hi, rfl⟩ := List.mem_iff_getElem.1 hc
  exact (h.2 i hi (by have := h.1; omega)).1
end Go.Proofs.YtckammgnmgkieaaGreat

