/-
  A tree in memory: a block a name, a map a name that has kids.
-/
import Derived.Test.YtbnkecmhmcligaaMQ38
import Derived.Test.YtbnkecmhmcligaaMQ39
import Derived.Maps.OwnIn
import Derived.Maps.OwnSet
import Derived.Sort.KeysCollected
namespace Go.Proofs.Ytbnkecmhmcligaa
set_option linter.unusedVariables false
set_option linter.unusedSimpArgs false
set_option maxRecDepth 20000
open Go.RowKit Go.Shelf Go.Maps
set_option maxRecDepth 20000
/-- A pointer as a number: a map's element. -/
def ptrElem : Value → Option (DataW Unit × List MemPlace)
  | .pointer (some ⟨b, 0, none⟩) => some (.lit (.int .i64 (b : Int)), [])
  | .pointer none => some (.nil, [])
  | _ => none
theorem ptrElem_nil {v : Value} {ps : List MemPlace} (h : ptrElem v = some (.nil, ps)) : v = .pointer none := by
  unfold ptrElem at h
  split at h
  · cases h
  · rfl
  · cases h
theorem ptrElem_at {v : Value} {b : Nat} {ps : List MemPlace} (h : ptrElem v = some (.lit (.int .i64 (b : Int)), ps)) : v = .pointer (some ⟨b, 0, none⟩) := by
  unfold ptrElem at h
  split at h
  · rename_i c
    simp only [Option.some.injEq, Prod.mk.injEq, DataW.lit.injEq, Lit.int.injEq, true_and] at h
    obtain ⟨h1, -⟩ := h
    have : c = b := by omega
    subst this; rfl
  · cases h
  · cases h
abbrev KidMap (W : World) (m N : Nat) (D : DataW Unit) : Prop := W.ownsMap Try.prog 9 ptrElem m N D
/-- What a map of kids says. -/
def KidsD (ks : List Nm) (be : Nm → Nat) (p : Nm) (D : DataW Unit) : Prop := ∀ l, Maps.has D (.string l) = decide (p ++ [l] ∈ ks) ∧ (p ++ [l] ∈ ks → D.atKey (.string l) .nil = .lit (.int .i64 (be (p ++ [l]) : Int)))
structure TreS where
  ks : List Nm
  be : Nm → Nat
  mb : Nm → Option Nat
  vl : Nm → Option Value
def foot (s : TreS) (k : Nat) : Prop := ∃ p ∈ s.ks, s.be p = k ∨ s.mb p = some k
def cellsT (z : Value) (s : TreS) (more : Nat) (p : Nm) : Array Value :=
  if p = [] then #[.map (s.mb p), (s.vl p).getD z, .bool (s.vl p).isSome, .int .i64 (more : Int)] else #[.map (s.mb p), (s.vl p).getD z, .bool (s.vl p).isSome]
def tyT (TT NT : TypeId) (p : Nm) : TypeId := if p = [] then TT else NT
structure TrM (TT NT : TypeId) (z : Value) (W : World) (s : TreS) (more : Nat) : Prop where
  ok : TreeOK s.ks
  node : ∀ p ∈ s.ks, W.heap[s.be p]? = some (.cells (cellsT z s more p) (tyT TT NT p))
  kidsN : ∀ p ∈ s.ks, s.mb p = none → ∀ l, p ++ [l] ∉ s.ks
  kidsS : ∀ p ∈ s.ks, ∀ m, s.mb p = some m → ∃ D, KidMap W m s.ks.length D ∧ KidsD s.ks s.be p D
  inj : ∀ p ∈ s.ks, ∀ q ∈ s.ks, s.be p = s.be q → p = q
  minj : ∀ p ∈ s.ks, ∀ q ∈ s.ks, ∀ m, s.mb p = some m → s.mb q = some m → p = q
  val : ∀ p, p ∉ s.ks → s.vl p = none
def TrObj (TT NT : TypeId) (o : Obj) : Prop := (∃ es c, o = .map es c) ∨ ∃ cs, o = .cells cs TT ∨ o = .cells cs NT
variable {TT NT : TypeId} {z : Value} {W W' : World} {s : TreS} {more : Nat}
theorem TrM.kind (h : TrM TT NT z W s more) {k : Nat} (hf : foot s k) : ∃ o, W.heap[k]? = some o ∧ TrObj TT NT o := by
  obtain ⟨p, hp, e | e⟩ := hf
  · refine ⟨_, e ▸ h.node p hp, .inr ⟨cellsT z s more p, ?_⟩⟩
    unfold tyT; split
    · exact .inl rfl
    · exact .inr rfl
  · obtain ⟨D, ⟨es, c, hb, _⟩, _⟩ := h.kidsS p hp k e
    exact ⟨_, hb, .inl ⟨_, _, rfl⟩⟩
theorem TrM.lt (h : TrM TT NT z W s more) {k : Nat} (hf : foot s k) : k < W.heap.size := by
  obtain ⟨o, ho, _⟩ := h.kind hf
  exact (Array.getElem?_eq_some_iff.1 ho).1
theorem TrM.not_foot (h : TrM TT NT z W s more) {k : Nat} {o : Obj} (ho : W.heap[k]? = some o) (hn : ¬ TrObj TT NT o) : ¬ foot s k := fun hf => by
  obtain ⟨o', ho', ht⟩ := h.kind hf
  rw [ho] at ho'; cases ho'; exact hn ht
theorem TrM.move (h : TrM TT NT z W s more) (hk : ∀ k, foot s k → W'.heap[k]? = W.heap[k]?) : TrM TT NT z W' s more :=
  ⟨h.ok, fun p hp => (hk _ ⟨p, hp, .inl rfl⟩).trans (h.node p hp), h.kidsN, fun p hp m hm => by
    obtain ⟨D, ⟨es, c, hb, r⟩, hD⟩ := h.kidsS p hp m hm
    exact ⟨D, ⟨es, c, (hk _ ⟨p, hp, .inr hm⟩).trans hb, r⟩, hD⟩, h.inj, h.minj, h.val⟩
theorem TrM.below (h : TrM TT NT z W s more) (hb : Below W.heap.size W W') : TrM TT NT z W' s more := h.move fun k hk => hb.block k (h.lt hk)
theorem TrM.grown (h : TrM TT NT z W s more) {row : Option Nat} (hg : W.grownBy W' row) (hr : ∀ k, row = some k → ¬ foot s k) : TrM TT NT z W' s more :=
  h.move fun k hk => hg.block k (h.lt hk) (fun e => hr k e.symm hk)
theorem TrM.len (h : TrM TT NT z W s more) : 1 ≤ s.ks.length := List.length_pos_of_mem h.ok.root

/-! ### what a call on a tree may turn -/
structure Chg (ft : Nat → Prop) (W W' : World) : Prop where
  os : W'.os = W.os
  tape : W'.tape = W.tape
  output : W'.output = W.output
  size : W.heap.size ≤ W'.heap.size
  block : ∀ k, k < W.heap.size → ¬ ft k → W'.heap[k]? = W.heap[k]?
theorem Chg.refl (ft : Nat → Prop) (W : World) : Chg ft W W := ⟨rfl, rfl, rfl, Nat.le_refl _, fun _ _ _ => rfl⟩
theorem Chg.of_below {ft : Nat → Prop} {W W' : World} (h : Below W.heap.size W W') : Chg ft W W' := ⟨h.os, h.tape, h.output, h.size, fun k hk _ => h.block k hk⟩
theorem Chg.of_grown {ft : Nat → Prop} {W W' : World} {row : Option Nat} (h : W.grownBy W' row) (hr : ∀ k, row = some k → ft k ∨ W.heap.size ≤ k) : Chg ft W W' :=
  ⟨h.os, h.tape, h.output, h.size, fun k hk hf => h.block k hk (fun e => by
    rcases hr k e.symm with g | g
    · exact hf g
    · omega)⟩
theorem Chg.trans {ft ft' : Nat → Prop} {A B C : World} (h : Chg ft A B) (k : Chg ft' B C) (hs : ∀ i, i < A.heap.size → ft' i → ft i) : Chg ft A C :=
  ⟨k.os.trans h.os, k.tape.trans h.tape, k.output.trans h.output, Nat.le_trans h.size k.size, fun i hi hf =>
    (k.block i (Nat.lt_of_lt_of_le hi h.size) (fun g => hf (hs i hi g))).trans (h.block i hi hf)⟩
theorem Chg.mono {ft ft' : Nat → Prop} {A B : World} (h : Chg ft A B) (hs : ∀ i, i < A.heap.size → ft i → ft' i) : Chg ft' A B := ⟨h.os, h.tape, h.output, h.size, fun i hi hf => h.block i hi (fun g => hf (hs i hi g))⟩
theorem Chg.below {ft : Nat → Prop} {W W' : World} {n : Nat} (h : Chg ft W W') (hn : n ≤ W.heap.size) (hf : ∀ k, ft k → n ≤ k) : Below n W W' :=
  ⟨h.os, h.tape, h.output, h.size, fun k hk => h.block k (by omega) (fun g => by have := hf k g; omega)⟩
theorem Chg.set {ft : Nat → Prop} {A B : World} (h : Chg ft A B) (k : Nat) (o : Nat) (v : Value) (hk : ft k ∨ A.heap.size ≤ k) : Chg ft A (B.setCell ⟨k, o, none⟩ v) :=
  ⟨h.os, h.tape, h.output, by have := h.size; simpa [World.setCell] using this, fun i hi hf => (Below.heap_setCell B ⟨k, o, none⟩ v i (fun e => by
    have e' : i = k := e
    subst e'
    rcases hk with g | g
    · exact hf g
    · omega)).trans (h.block i hi hf)⟩
theorem Chg.keep {W W' : World} (h : Chg (foot s) W W') (hT : TrM TT NT z W s more) {k : Nat} {o : Obj} (ho : W.heap[k]? = some o) (hn : ¬ TrObj TT NT o) : W'.heap[k]? = some o :=
  (h.block k (Array.getElem?_eq_some_iff.1 ho).1 (hT.not_foot ho hn)).trans ho

/-! ### a value given -/
def TreS.give (s : TreS) (p : Nm) (v : Value) : TreS := { s with vl := fun q => if q = p then some v else s.vl q }
theorem foot_give (s : TreS) (p : Nm) (v : Value) (k : Nat) : foot (s.give p v) k ↔ foot s k := Iff.rfl
theorem cellsT_other {s : TreS} {p q : Nm} {v : Value} (h : q ≠ p) : cellsT z (s.give p v) more q = cellsT z s more q := by
  unfold cellsT TreS.give; simp only [if_neg h]
theorem cellsT_same {s : TreS} {p : Nm} {v : Value} : cellsT z (s.give p v) more p = ((cellsT z s more p).setIfInBounds 1 v).setIfInBounds 2 (.bool true) := by
  unfold cellsT TreS.give; simp only [if_true]
  split <;> rfl
theorem TrM.give (h : TrM TT NT z W s more) {p : Nm} (hp : p ∈ s.ks) (v : Value) : TrM TT NT z ((W.setCell ⟨s.be p, 1, none⟩ v).setCell ⟨s.be p, 2, none⟩ (.bool true)) (s.give p v) more := by
  have hb := h.node p hp
  have h1 := kset hb 1 v
  have h2 := kset h1 2 (.bool true)
  have hne : ∀ q ∈ s.ks, ∀ m, s.mb q = some m → m ≠ s.be p := fun q hq m hm e => by
    obtain ⟨D, ⟨es, c, hbm, _⟩, _⟩ := h.kidsS q hq m hm
    rw [e, hb] at hbm; cases hbm
  refine ⟨h.ok, fun q hq => ?_, h.kidsN, fun q hq m hm => ?_, h.inj, h.minj, fun q hq => ?_⟩
  · by_cases e : q = p
    · subst e; rw [cellsT_same]; exact h2
    · rw [cellsT_other e]
      have hn : s.be q ≠ s.be p := fun g => e (h.inj q hq p hp g)
      exact ((Below.heap_setCell _ _ _ _ hn).trans (Below.heap_setCell _ _ _ _ hn)).trans (h.node q hq)
  · obtain ⟨D, ⟨es, c, hbm, r⟩, hD⟩ := h.kidsS q hq m hm
    have hn := hne q hq m hm
    exact ⟨D, ⟨es, c, ((Below.heap_setCell _ _ _ _ hn).trans (Below.heap_setCell _ _ _ _ hn)).trans hbm, r⟩, hD⟩
  · have hq' : q ≠ p := fun e => hq (e ▸ hp)
    simp only [TreS.give, if_neg hq']; exact h.val q hq

/-! ### a name added below p -/
def TreS.kid (s : TreS) (p : Nm) (l : List UInt8) (K m : Nat) : TreS :=
  { s with ks := s.ks ++ [p ++ [l]], be := fun q => if q = p ++ [l] then K else s.be q, mb := fun q => if q = p then some m else if q = p ++ [l] then none else s.mb q }
theorem snoc_ne (p : Nm) (l : List UInt8) : p ++ [l] ≠ p := fun e => by have := congrArg List.length e; simp at this
theorem TrM.kid (h : TrM TT NT z W s more) {p : Nm} {l : List UInt8} (hp : p ∈ s.ks) (hn : p ++ [l] ∉ s.ks) (hfl : foldL l = l) {K m more' : Nat}
    (hK : W'.heap[K]? = some (.cells #[.map none, z, .bool false] NT)) (hKf : ∀ q ∈ s.ks, s.be q ≠ K)
    (hb : W'.heap[s.be p]? = some (.cells (cellsT z (s.kid p l K m) more' p) (tyT TT NT p)))
    (hr : W'.heap[s.be []]? = some (.cells (cellsT z (s.kid p l K m) more' []) TT))
    (hm : ∃ D, KidMap W' m (s.ks.length + 1) D ∧ KidsD (s.ks ++ [p ++ [l]]) (s.kid p l K m).be p D)
    (hmf : ∀ q ∈ s.ks, q ≠ p → s.mb q ≠ some m)
    (hk1 : ∀ q ∈ s.ks, q ≠ p → q ≠ [] → W'.heap[s.be q]? = W.heap[s.be q]?)
    (hk2 : ∀ q ∈ s.ks, q ≠ p → ∀ m', s.mb q = some m' → W'.heap[m']? = W.heap[m']?) :
    TrM TT NT z W' (s.kid p l K m) more' := by
  have hsn := snoc_ne p l
  have ne_of : ∀ q ∈ s.ks, q ≠ p ++ [l] := fun q hq e => hn (e ▸ hq)
  have hmem : ∀ q, q ∈ (s.kid p l K m).ks ↔ q ∈ s.ks ∨ q = p ++ [l] := fun q => by simp [TreS.kid]
  have hfold : foldN (p ++ [l]) = p ++ [l] := by
    unfold foldN; rw [List.map_append]
    have := h.ok.fold p hp
    unfold foldN at this
    rw [this]; simp [hfl]
  have hbe : ∀ q ∈ s.ks, (s.kid p l K m).be q = s.be q := fun q hq => by simp only [TreS.kid, if_neg (ne_of q hq)]
  have hbk : (s.kid p l K m).be (p ++ [l]) = K := by simp [TreS.kid]
  have hmp : (s.kid p l K m).mb p = some m := by simp [TreS.kid]
  have hmk : (s.kid p l K m).mb (p ++ [l]) = none := by simp only [TreS.kid, if_neg hsn, if_true]
  have hmo : ∀ q ∈ s.ks, q ≠ p → (s.kid p l K m).mb q = s.mb q := fun q hq e => by simp only [TreS.kid, if_neg e, if_neg (ne_of q hq)]
  have hkp : ∀ q, q ++ [l] = p ++ [l] → q = p := fun q e => (List.append_inj' e rfl).1
  have hvk : s.vl (p ++ [l]) = none := h.val _ hn
  have hkk : ∀ (q : Nm) (a : List UInt8), q ≠ p → (q ++ [a] ∈ (s.kid p l K m).ks ↔ q ++ [a] ∈ s.ks) := fun q a hq => by
    rw [hmem]
    exact ⟨fun g => g.elim id (fun e => absurd (List.append_inj' e rfl).1 hq), .inl⟩
  refine ⟨h.ok.snoc hp hn hfold, fun q hq => ?_, fun q hq hq0 a ha => ?_, fun q hq m' hm' => ?_, fun q hq r hr' e => ?_, fun q hq r hr' m' e1 e2 => ?_, fun q hq => ?_⟩
  · rcases (hmem q).1 hq with hq | rfl
    · rw [hbe q hq]
      by_cases e : q = p
      · subst e; exact hb
      · by_cases e0 : q = []
        · subst e0; exact hr
        · rw [hk1 q hq e e0, h.node q hq]
          unfold cellsT
          rw [if_neg e0, if_neg e0, hmo q hq e]
          rfl
    · rw [hbk, hK]
      have e0 : p ++ [l] ≠ [] := by simp
      unfold cellsT tyT
      rw [if_neg e0, if_neg e0, hmk]
      show _ = some (Obj.cells #[.map none, (s.vl (p ++ [l])).getD z, .bool (s.vl (p ++ [l])).isSome] NT)
      rw [hvk]; rfl
  · rcases (hmem q).1 hq with hq | rfl
    · by_cases e : q = p
      · subst e; rw [hmp] at hq0; cases hq0
      · rw [hmo q hq e] at hq0
        exact h.kidsN q hq hq0 a ((hkk q a e).1 ha)
    · rcases (hmem _).1 ha with ha | ha
      · exact hn (h.ok.up _ _ ha)
      · have := congrArg List.length ha; simp at this
  · rcases (hmem q).1 hq with hq | rfl
    · have hlen : (s.kid p l K m).ks.length = s.ks.length + 1 := by simp [TreS.kid]
      rw [hlen]
      by_cases e : q = p
      · subst e
        rw [hmp] at hm'; cases hm'
        exact hm
      · rw [hmo q hq e] at hm'
        obtain ⟨D, ⟨es, c, hbm, r1, r2, r3⟩, hD⟩ := h.kidsS q hq m' hm'
        refine ⟨D, ⟨es, c, (hk2 q hq e m' hm').trans hbm, r1, by omega, r3⟩, fun a => ⟨?_, fun ha => ?_⟩⟩
        · rw [(hD a).1]; exact decide_eq_decide.2 (hkk q a e).symm
        · have ha' := (hkk q a e).1 ha
          rw [hbe _ ha']; exact (hD a).2 ha'
    · rw [hmk] at hm'; cases hm'
  · rcases (hmem q).1 hq with hq | rfl <;> rcases (hmem r).1 hr' with hr' | rfl
    · rw [hbe q hq, hbe r hr'] at e; exact h.inj q hq r hr' e
    · rw [hbe q hq, hbk] at e; exact absurd e (hKf q hq)
    · rw [hbe r hr', hbk] at e; exact absurd e.symm (hKf r hr')
    · rfl
  · have nk : ∀ r, r ∈ (s.kid p l K m).ks → (s.kid p l K m).mb r = some m' → r ∈ s.ks := fun r hr' e => by
      rcases (hmem r).1 hr' with hr' | rfl
      · exact hr'
      · rw [hmk] at e; cases e
    have hq2 := nk q hq e1
    have hr2 := nk r hr' e2
    by_cases eq : q = p <;> by_cases er : r = p
    · rw [eq, er]
    · subst eq
      rw [hmp] at e1; cases e1
      rw [hmo r hr2 er] at e2
      exact absurd e2 (hmf r hr2 er)
    · subst er
      rw [hmp] at e2; cases e2
      rw [hmo q hq2 eq] at e1
      exact absurd e1 (hmf q hq2 eq)
    · rw [hmo q hq2 eq] at e1
      rw [hmo r hr2 er] at e2
      exact h.minj q hq2 r hr2 m' e1 e2
  · exact h.val q (fun g => hq ((hmem q).2 (.inl g)))
theorem foot_kid {s : TreS} {p : Nm} {l : List UInt8} {K m k : Nat} (hp : p ∈ s.ks) (h : foot (s.kid p l K m) k) : foot s k ∨ k = K ∨ k = m := by
  obtain ⟨q, hq, e⟩ := h
  have hq' : q ∈ s.ks ∨ q = p ++ [l] := by simpa [TreS.kid] using hq
  rcases e with e | e
  · simp only [TreS.kid] at e
    split at e
    · exact .inr (.inl e.symm)
    · rename_i hne
      rcases hq' with hq' | hq'
      · exact .inl ⟨q, hq', .inl e⟩
      · exact absurd hq' hne
  · simp only [TreS.kid] at e
    split at e
    · cases e; exact .inr (.inr rfl)
    · split at e
      · cases e
      · rename_i hne
        rcases hq' with hq' | hq'
        · exact .inl ⟨q, hq', .inr e⟩
        · exact absurd hq' hne
end Go.Proofs.Ytbnkecmhmcligaa

/-
  What a name's map says: look-ups, keys.
-/
namespace Go.Proofs.Ytbnkecmhmcligaa
set_option linter.unusedVariables false
set_option linter.unusedSimpArgs false
set_option maxRecDepth 20000
open Go.RowKit Go.Shelf Go.Maps Go.WideMaps
set_option maxRecDepth 20000
theorem keyStrT : Maps.Keyed Try.prog 9 := Maps.string_keyed Try.underlying9
theorem keyT (l : List UInt8) (h : l.length ≤ maxLen) : keyOf Try.prog 9 (strV l) = some (.string l) :=
  keyOf_string_mk Try.underlying9 (s := ⟨l.toArray⟩) (by show l.toArray.size ≤ _; rw [List.size_toArray]; exact h)
theorem strLit (l : List UInt8) (h : l.length ≤ maxLen) : WideAt.IsKeyLit (.string l) := keyStrT.key (keyT l h)
variable {TT NT : TypeId} {z : Value} {W W' : World} {s : TreS} {more : Nat}
/-- The kid that p's map has by l, or nil. -/
def kidV (s : TreS) (p : Nm) (l : List UInt8) : Value := if p ++ [l] ∈ s.ks then .pointer (some ⟨s.be (p ++ [l]), 0, none⟩) else .pointer none
theorem TrM.look (h : TrM TT NT z W s more) {p : Nm} (hp : p ∈ s.ks) (l : List UInt8) (hl : l.length ≤ maxLen) {t e : TypeId} (ht : Try.prog.underlying t = some (.map 9 e)) (hz : ∀ W, (zeroValue e).run Try.prog W = .ok (.pointer none) W) :
    (Instr.lookup t (.map (s.mb p)) (strV l) false).run Try.prog W = .ok (kidV s p l) W := by
  cases hm : s.mb p with
  | none =>
    have := Maps.look_nil (w := W) false keyStrT ht (hz W) (keyT l hl)
    unfold kidV
    rw [if_neg (h.kidsN p hp hm l)]
    simpa using this
  | some m =>
    obtain ⟨D, hown, hD⟩ := h.kidsS p hp m hm
    obtain ⟨v, ps, hrun, hv⟩ := hown.lookup keyStrT ht (hz W) (zd := .nil) (zp := []) rfl (keyT l hl)
    obtain ⟨h1, h2⟩ := hD l
    rw [hrun]
    unfold kidV
    by_cases hin : p ++ [l] ∈ s.ks
    · rw [if_pos hin]
      rw [h2 hin] at hv
      rw [ptrElem_at hv]
    · rw [if_neg hin]
      rw [decide_eq_false hin] at h1
      rw [atKey_of_not_has h1] at hv
      rw [ptrElem_nil hv]
theorem strKeys_ok {m N : Nat} {D : DataW Unit} (hown : KidMap W m N D) : (strKeys D).Nodup ∧ (∀ x, x ∈ strKeys D ↔ Maps.has D (.string x) = true) ∧ (strKeys D).length = Maps.size D := by
  obtain ⟨es, hD, hpw, _⟩ := hown.entries keyStrT
  obtain ⟨es', hD', hko⟩ := hown.keysOf
  obtain rfl : es = es' := by rw [hD] at hD'; simpa using hD'
  subst hD
  have hk : ∀ p ∈ es, ∃ x, p.1 = .string x := fun p hp => by obtain ⟨v, hv⟩ := hko p hp; obtain ⟨x, _, hx, _⟩ := Maps.keyOf_str Try.underlying9 hv; exact ⟨x, hx⟩
  refine ⟨?_, fun x => ?_, by simp [strKeys, Maps.size]⟩
  · show (es.map fun p => strOf p.1).Nodup
    refine List.pairwise_map.2 (hpw.imp_of_mem fun {p q} hp' hq' hne e => hne ?_)
    obtain ⟨a, ha⟩ := hk p hp'
    obtain ⟨b, hb⟩ := hk q hq'
    rw [ha, hb] at e ⊢
    exact congrArg _ e
  · rw [has_eq, List.any_eq_true]
    show x ∈ es.map (fun p => strOf p.1) ↔ _
    rw [List.mem_map]
    constructor
    · rintro ⟨p, hp', rfl⟩
      obtain ⟨a, ha⟩ := hk p hp'
      exact ⟨p, hp', by rw [ha]; simp [Lit.sameKey, strOf]⟩
    · rintro ⟨p, hp', hs⟩
      obtain ⟨a, ha⟩ := hk p hp'
      rw [ha] at hs
      exact ⟨p, hp', by rw [ha]; simpa [Lit.sameKey, strOf] using hs⟩
theorem kids_sorted {m N : Nat} {D : DataW Unit} {ks : List Nm} {be : Nm → Nat} {p : Nm} {ss : List (List UInt8)} (hown : KidMap W m N D) (hD : KidsD ks be p D) (hok : TreeOK ks) (hs : ss.Perm (strKeys D)) : KidsOf ks p (ss.mergeSort fun x y => decide (x ≤ y)) := by
  obtain ⟨h1, h2, _⟩ := strKeys_ok hown
  refine kids_of hok (fun l => ?_) (hs.nodup_iff.2 h1)
  rw [hs.mem_iff, h2, (hD l).1]; simp
theorem KidsD.put {ks : List Nm} {be be' : Nm → Nat} {p : Nm} {D : DataW Unit} (h : KidsD ks be p D) (hM : Maps.IsMap D) {l : List UInt8} (hl : l.length ≤ maxLen) {K : Nat} (h1 : be' (p ++ [l]) = K) (h2 : ∀ a, a ≠ l → be' (p ++ [a]) = be (p ++ [a])) :
    KidsD (ks ++ [p ++ [l]]) be' p (D.put (.string l) (.lit (.int .i64 (K : Int)))) := by
  intro a
  by_cases e : a = l
  · subst e
    exact ⟨by rw [has_put_same hM (strLit a hl)]; simp, fun _ => by rw [atKey_put_same hM (strLit a hl), h1]⟩
  · have hne : (Lit.string a) ≠ .string l := fun g => e (by injection g)
    have hin : p ++ [a] ∈ ks ++ [p ++ [l]] ↔ p ++ [a] ∈ ks := by
      rw [List.mem_append, List.mem_singleton]
      exact ⟨fun g => g.elim id (fun g => absurd (by have := List.append_cancel_left g; simpa using this) e), .inl⟩
    exact ⟨by rw [has_put_other hne, (h a).1]; exact decide_eq_decide.2 hin.symm, fun g => by rw [atKey_put_other hne, h2 a e]; exact (h a).2 (hin.1 g)⟩
theorem kidsD_nil {ks : List Nm} {be : Nm → Nat} {p : Nm} (h : ∀ l, p ++ [l] ∉ ks) : KidsD ks be p (.map []) := fun l => ⟨by rw [decide_eq_false (h l)]; rfl, fun g => absurd g (h l)⟩
end Go.Proofs.Ytbnkecmhmcligaa

