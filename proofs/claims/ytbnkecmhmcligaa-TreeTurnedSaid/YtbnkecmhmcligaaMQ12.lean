/-
  The trees of int: a kid put into a name's map; a new tree.
-/
import Derived.Test.YtbnkecmhmcligaaMQ41
namespace Go.Proofs.Ytbnkecmhmcligaa
set_option linter.unusedVariables false
set_option linter.unusedSimpArgs false
set_option maxRecDepth 20000
open Go.RowKit Go.Shelf Go.Maps Go.WideMaps
set_option maxRecDepth 20000
theorem zeroPtr_i (w : World) : (zeroValue 63).run Try.prog w = .ok (.pointer none) w := by kernel_rfl
theorem mapSome_i (bm : Nat) (w : World) : (binOp .eql 58 (.map (some bm)) (.map none)).run Try.prog w = .ok (.bool false) w := by kernel_rfl
theorem mapNone_i (w : World) : (binOp .eql 58 (.map none) (.map none)).run Try.prog w = .ok (.bool true) w := by kernel_rfl
theorem setIf_same {cs : Array Value} {v : Value} (h : cs[0]? = some v) : cs.setIfInBounds 0 v = cs := by
  apply Array.ext_getElem?
  intro i
  rw [Array.getElem?_setIfInBounds]
  split
  · rename_i e
    subst e
    rw [h, if_pos (Array.getElem?_eq_some_iff.1 h).1]
  · rfl
def AddPost (b K : Nat) (cs : Array Value) (T : TypeId) (l : List UInt8) (mo : Option Nat) (N : Nat) (D : DataW Unit) (w : World) (e : Ending) (w' : World) : Prop :=
  (∃ v, e = .returned v) ∧ ∃ m, (mo = some m ∨ (mo = none ∧ m = w.heap.size)) ∧ w'.heap[b]? = some (.cells (cs.setIfInBounds 0 (.map (some m))) T) ∧ KidMap w' m (N + 1) (D.put (.string l) (.lit (.int .i64 (K : Int)))) ∧ Chg (fun k => k = b ∨ mo = some k) w w'
section
attribute [local go_sem] Oper.semAt_some
set_option maxRecDepth 100000 in
set_option maxHeartbeats 2000000 in
theorem node_add_i (b K : Nat) (cs : Array Value) (T : TypeId) (l : List UInt8) (mo : Option Nat) (N : Nat) (D : DataW Unit) (w : World) (hb : w.heap[b]? = some (.cells cs T)) (h0 : cs[0]? = some (.map mo))
    (hm : ∀ m, mo = some m → KidMap w m N D) (hn : mo = none → D = .map []) (hl : l.length ≤ 140737488351232) (hN : N ≤ 562949953421312) :
    Calls Try.prog 26 #[.pointer (some ⟨b, 0, none⟩), strV l, .pointer (some ⟨K, 0, none⟩)] w (AddPost b K cs T l mo N D w) := by
  have hkey := keyT l (by unfold maxLen; omega)
  have hmm := @run_makeMap Try.prog
  have q1 := mapSome_i; have q2 := mapNone_i
  have HB := Lib.hid hb
  have hc := kcell hb 0 _ h0
  have hf := kfrozen hb 0
  unfold strV at hkey ⊢
  cases mo with
  | some m =>
    have hown := hm m rfl
    have hbm : m ≠ b := by
      rintro rfl
      obtain ⟨es, c, h, _⟩ := hown
      rw [hb] at h; cases h
    have HOWN := Lib.hid hown; have HBM := Lib.hid hbm; have HC0 := Lib.hid h0
    clear hm hn hb h0 hown hbm
    go_enter Try.func26, Try.ntmps26
    go_wp2_with (at_mapUpdate; refine wpList_mapUpdate_own _ rfl _ _ _ 58 rfl 9 63 keyStrT Try.underlying58 _ m N D rfl HOWN.out (by unfold maxLen; omega) _ _ _ rfl rfl hkey _ [] (rfl : ptrElem _ = _) ?_; intro w1 hown1 hg1; have HO1 := Lib.hid hown1; have HG1 := Lib.hid hg1; clear hown1 hg1)
    go_end0
    refine ⟨⟨_, rfl⟩, m, .inl rfl, ?_, HO1.out, Chg.of_grown HG1.out (fun k e => .inl (.inr e))⟩
    rw [HG1.out.block b (kblock_lt HB.out) (by intro e; injection e with e; exact HBM.out e.symm), HB.out]
    congr 2
    exact (setIf_same HC0.out).symm
  | none =>
    have hD := hn rfl
    subst hD
    obtain ⟨W2, hW2⟩ : ∃ W2, (w.alloc (.map #[] 0)).setCell ⟨b, 0, none⟩ (.map (some w.heap.size)) = W2 := ⟨_, rfl⟩
    have hlt := kblock_lt hb
    have hb1 : (w.alloc (.map #[] 0)).heap[b]? = some (.cells cs T) := (Below.heap_alloc _ _ _ hlt).trans hb
    have hown : KidMap W2 w.heap.size N (.map []) := by
      rw [← hW2]
      exact ((World.ownsMap_made w _ _ _).setCell (a := ⟨b, 0, none⟩) (by show _ ≠ b; omega) _).mono (Nat.zero_le _)
    have hb2 : W2.heap[b]? = some (.cells (cs.setIfInBounds 0 (.map (some w.heap.size))) T) := by rw [← hW2]; exact kset hb1 0 _
    have hg2 : Chg (fun k => k = b ∨ none = some k) w W2 := by rw [← hW2]; exact (Chg.of_below ((Below.refl _ w).alloc (Nat.le_refl _) _)).set b 0 _ (.inl (.inl rfl))
    have hc2 := kcell hb2 0 (.map (some w.heap.size)) (by
      have := (Array.getElem?_eq_some_iff.1 h0).1
      simp [this])
    have hcA := kcell hb1 0 _ h0; have hfA := kfrozen hb1 0
    have hz2 : w.heap.size < W2.heap.size := hown.lt
    have HOWN := Lib.hid hown; have HB2 := Lib.hid hb2; have HG2 := Lib.hid hg2; have HLT := Lib.hid hlt; have HZ2 := Lib.hid hz2
    clear hm hn hb h0 hown hb1 hb2 hg2 hlt hz2
    go_enter Try.func26, Try.ntmps26
    go_wp2_with (at_mapUpdate; refine wpList_mapUpdate_own _ rfl _ _ _ 58 rfl 9 63 keyStrT Try.underlying58 _ w.heap.size N (.map []) rfl HOWN.out (by unfold maxLen; omega) _ _ _ rfl rfl hkey _ [] (rfl : ptrElem _ = _) ?_; intro w1 hown1 hg1; have HO1 := Lib.hid hown1; have HG1 := Lib.hid hg1; clear hown1 hg1)
    go_end0
    refine ⟨⟨_, rfl⟩, w.heap.size, .inr ⟨rfl, rfl⟩, ?_, HO1.out, HG2.out.trans (Chg.of_grown HG1.out (fun k e => .inl e) : Chg (fun k => some w.heap.size = some k) _ _) (fun i hi e => by injection e with e; omega)⟩
    rw [HG1.out.block b (by have := kblock_lt HB2.out; omega) (by intro e; injection e with e; have := HLT.out; omega), HB2.out]
end
end Go.Proofs.Ytbnkecmhmcligaa

/-
  A name added below another: the tree behind it.
-/
namespace Go.Proofs.Ytbnkecmhmcligaa
set_option linter.unusedVariables false
set_option linter.unusedSimpArgs false
set_option maxRecDepth 20000
open Go.RowKit Go.Shelf Go.Maps Go.WideMaps
set_option maxRecDepth 20000
variable {TT NT NP : TypeId} {z : Value} {W : World} {s : TreS} {more : Nat}
theorem cellsT_map (z : Value) (s : TreS) (more : Nat) (p : Nm) : (cellsT z s more p)[0]? = some (.map (s.mb p)) := by unfold cellsT; split <;> rfl
theorem cellsT_val (z : Value) (s : TreS) (more : Nat) (p : Nm) : (cellsT z s more p)[1]? = some ((s.vl p).getD z) := by unfold cellsT; split <;> rfl
theorem cellsT_giv (z : Value) (s : TreS) (more : Nat) (p : Nm) : (cellsT z s more p)[2]? = some (.bool (s.vl p).isSome) := by unfold cellsT; split <;> rfl
theorem cellsT_more (z : Value) (s : TreS) (more : Nat) : (cellsT z s more [])[3]? = some (.int .i64 (more : Int)) := by unfold cellsT; rw [if_pos rfl]; rfl
theorem boxNot {v : Value} (h1 : NP ≠ TT) (h2 : NP ≠ NT) : ¬ TrObj TT NT (.cells #[v] NP) := by
  rintro (⟨es, c, h⟩ | ⟨cs, h | h⟩)
  · cases h
  · injection h with _ h _; exact h1 h
  · injection h with _ h _; exact h2 h
/-- What p's map is, or would be. -/
theorem TrM.kidsD (h : TrM TT NT z W s more) {p : Nm} (hp : p ∈ s.ks) : ∃ D, (∀ m, s.mb p = some m → KidMap W m s.ks.length D) ∧ (s.mb p = none → D = .map []) ∧ KidsD s.ks s.be p D ∧ Maps.IsMap D := by
  cases hm : s.mb p with
  | none => exact ⟨.map [], fun m e => (by cases e), fun _ => rfl, kidsD_nil (h.kidsN p hp hm), ⟨_, rfl⟩⟩
  | some m =>
    obtain ⟨D, h1, h2⟩ := h.kidsS p hp m hm
    exact ⟨D, fun m' e => (by cases e; exact h1), fun e => (by cases e), h2, h1.isMap⟩
/-- The state behind the call of add. -/
structure Added (TT NT : TypeId) (z : Value) (W : World) (s : TreS) (more : Nat) (q : Nm) (l : List UInt8) (D : DataW Unit) (W2 : World) (m : Nat) : Prop where
  new : s.mb q = some m ∨ (s.mb q = none ∧ m = W.heap.size + 1)
  nd : W2.heap[s.be q]? = some (.cells ((cellsT z s more q).setIfInBounds 0 (.map (some m))) (tyT TT NT q))
  kid : W2.heap[W.heap.size]? = some (.cells #[.map none, z, .bool false] NT)
  map : KidMap W2 m (s.ks.length + 1) (D.put (.string l) (.lit (.int .i64 (W.heap.size : Int))))
  os : W2.os = W.os
  tape : W2.tape = W.tape
  output : W2.output = W.output
  size : W.heap.size < W2.heap.size
  rest : ∀ k, k < W.heap.size → k ≠ s.be q → s.mb q ≠ some k → W2.heap[k]? = W.heap[k]?
theorem TrM.added (h : TrM TT NT z W s more) {q : Nm} {l : List UInt8} (hq : q ∈ s.ks) {D : DataW Unit} {e : Ending} {W2 : World} (hp : AddPost (s.be q) W.heap.size (cellsT z s more q) (tyT TT NT q) l (s.mb q) s.ks.length D (W.alloc (.cells #[.map none, z, .bool false] NT)) e W2) : ∃ m, Added TT NT z W s more q l D W2 m := by
  obtain ⟨_, m, h1, h2, h3, h4⟩ := hp
  have hlt : ∀ {k}, foot s k → k < W.heap.size := fun hf => h.lt hf
  have f1 : s.be q < W.heap.size := hlt ⟨q, hq, .inl rfl⟩
  have f2 : ∀ k, s.mb q = some k → k < W.heap.size := fun k e => hlt ⟨q, hq, .inr e⟩
  refine ⟨m, by simpa using h1, h2, ?_, h3, h4.os, h4.tape, h4.output, by have := h4.size; simp at this; omega, fun k hk h5 h6 => (h4.block k (by simp; omega) (fun g => g.elim h5 h6)).trans (Below.heap_alloc _ _ _ hk)⟩
  rw [h4.block _ (by simp) (fun g => by
    rcases g with g | g
    · omega
    · have := f2 _ g; omega)]
  exact World.alloc_heap_new W _
theorem Added.keep {q : Nm} {l : List UInt8} {D : DataW Unit} {W2 : World} {m : Nat} (h : Added TT NT z W s more q l D W2 m) (hT : TrM TT NT z W s more) (hq : q ∈ s.ks) {k : Nat} {o : Obj} (ho : W.heap[k]? = some o) (hn : ¬ TrObj TT NT o) : W2.heap[k]? = some o := by
  have hf := hT.not_foot ho hn
  exact (h.rest k (Array.getElem?_eq_some_iff.1 ho).1 (fun e => hf ⟨q, hq, .inl e.symm⟩) (fun e => hf ⟨q, hq, .inr e⟩)).trans ho
theorem Added.root {q : Nm} {l : List UInt8} {D : DataW Unit} {W2 : World} {m : Nat} (h : Added TT NT z W s more q l D W2 m) (hT : TrM TT NT z W s more) (hq : q ∈ s.ks) :
    ∃ cs, W2.heap[s.be []]? = some (.cells cs TT) ∧ cs[3]? = some (.int .i64 (more : Int)) ∧ (q ≠ [] → cs = cellsT z s more []) ∧ (q = [] → cs = (cellsT z s more []).setIfInBounds 0 (.map (some m))) := by
  by_cases e : q = []
  · subst e
    refine ⟨_, by simpa [tyT] using h.nd, ?_, fun g => absurd rfl g, fun _ => rfl⟩
    have := cellsT_more z s more
    rw [Array.getElem?_setIfInBounds_ne (by omega)]; exact this
  · refine ⟨cellsT z s more [], ?_, cellsT_more z s more, fun _ => rfl, fun g => absurd g e⟩
    have h0 := hT.node [] hT.ok.root
    rw [h.rest _ (kblock_lt h0) (fun g => e (hT.inj [] hT.ok.root q hq g).symm) (fun g => by
      obtain ⟨D', ⟨es, c, hb, _⟩, _⟩ := hT.kidsS q hq _ g
      rw [h0] at hb; cases hb), h0]
    rfl
theorem TrM.step (hT : TrM TT NT z W s more) {q : Nm} {l : List UInt8} (hq : q ∈ s.ks) (hn : q ++ [l] ∉ s.ks) (hfl : foldL l = l) (hl : l.length ≤ maxLen) {D : DataW Unit} (hD : KidsD s.ks s.be q D) (hM : Maps.IsMap D)
    {W2 : World} {m : Nat} (hA : Added TT NT z W s more q l D W2 m) {b6 : Nat} {v6 u : Value} (h6 : Boxed W b6 NP v6) (hN1 : NP ≠ TT) (hN2 : NP ≠ NT) :
    TrM TT NT z ((W2.setCell ⟨s.be [], 3, none⟩ (.int .i64 ((more : Int) + 1))).setCell ⟨b6, 0, none⟩ u) (s.kid q l W.heap.size m) (more + 1) ∧
    (∀ k, foot (s.kid q l W.heap.size m) k → foot s k ∨ W.heap.size ≤ k) ∧
    Chg (fun k => foot s k ∨ k = b6) W ((W2.setCell ⟨s.be [], 3, none⟩ (.int .i64 ((more : Int) + 1))).setCell ⟨b6, 0, none⟩ u) := by
  have fb : ∀ p ∈ s.ks, s.be p < W.heap.size := fun p hp => hT.lt ⟨p, hp, .inl rfl⟩
  have fm : ∀ p ∈ s.ks, ∀ k, s.mb p = some k → k < W.heap.size := fun p hp k e => hT.lt ⟨p, hp, .inr e⟩
  have n6 : ¬ foot s b6 := hT.not_foot h6 (boxNot hN1 hN2)
  have hr0 := hT.ok.root
  have l6 := h6.lt
  have bm : ∀ p ∈ s.ks, ∀ r ∈ s.ks, s.mb r ≠ some (s.be p) := fun p hp r hr g => by
    obtain ⟨D', ⟨es, c, hb, _⟩, _⟩ := hT.kidsS r hr _ g
    rw [hT.node p hp] at hb; cases hb
  have hmlt : m ≠ s.be [] ∧ m ≠ b6 ∧ m ≠ W.heap.size := by
    rcases hA.new with g | ⟨_, g⟩
    · exact ⟨fun e => bm [] hr0 q hq (e ▸ g), fun e => n6 ⟨q, hq, .inr (e ▸ g)⟩, fun e => by have := fm q hq m g; omega⟩
    · have := fb [] hr0
      exact ⟨by omega, by omega, by omega⟩
  obtain ⟨W4, hW4⟩ : ∃ W4, (W2.setCell ⟨s.be [], 3, none⟩ (.int .i64 ((more : Int) + 1))).setCell ⟨b6, 0, none⟩ u = W4 := ⟨_, rfl⟩
  have oth : ∀ k, k ≠ s.be [] → k ≠ b6 → W4.heap[k]? = W2.heap[k]? := fun k h1 h2 => by
    rw [← hW4]; exact (Below.heap_setCell _ ⟨b6, 0, none⟩ _ _ h2).trans (Below.heap_setCell _ ⟨s.be [], 3, none⟩ _ _ h1)
  have hrb : s.be [] ≠ b6 := fun e => n6 ⟨[], hr0, .inl e⟩
  have rootAt : ∀ cs, W2.heap[s.be []]? = some (.cells cs TT) → W4.heap[s.be []]? = some (.cells (cs.setIfInBounds 3 (.int .i64 ((more : Int) + 1))) TT) := fun cs h => by
    rw [← hW4]; exact (Below.heap_setCell _ ⟨b6, 0, none⟩ _ _ hrb).trans (kset h 3 _)
  rw [hW4]
  have hbe : (s.kid q l W.heap.size m).be (q ++ [l]) = W.heap.size := by simp [TreS.kid]
  have hmore : ((more + 1 : Nat) : Int) = (more : Int) + 1 := by omega
  refine ⟨hT.kid hq hn hfl ?_ ?_ ?_ ?_ ?_ ?_ ?_ ?_, fun k hk => ?_, ?_⟩
  · rw [oth _ (by have := fb [] hr0; omega) (by omega)]; exact hA.kid
  · intro p hp e; have := fb p hp; omega
  · by_cases e : q = []
    · subst e
      rw [rootAt _ (by simpa [tyT] using hA.nd)]
      unfold cellsT tyT TreS.kid
      simp only [if_true, hmore]
      rfl
    · rw [oth _ (fun g => e (hT.inj q hq [] hr0 g)) (fun g => n6 ⟨q, hq, .inl g⟩), hA.nd]
      unfold cellsT TreS.kid
      simp only [if_neg e, if_true]
      rfl
  · obtain ⟨cs, g1, g2, g3, g4⟩ := hA.root hT hq
    rw [rootAt cs g1]
    congr 2
    by_cases e : q = []
    · rw [g4 e]
      subst e
      unfold cellsT TreS.kid
      simp only [if_true, hmore]
      rfl
    · rw [g3 e]
      have e2 : ([] : Nm) ≠ q ++ [l] := by simp
      unfold cellsT TreS.kid
      simp only [if_true, if_neg (Ne.symm e), if_neg e2, hmore]
      rfl
  · refine ⟨_, ?_, hD.put hM hl hbe (fun a ha => ?_)⟩
    · rw [← hW4]
      exact (hA.map.setCell (a := ⟨s.be [], 3, none⟩) hmlt.1 _).setCell (a := ⟨b6, 0, none⟩) hmlt.2.1 _
    · have : q ++ [a] ≠ q ++ [l] := fun g => ha (by have := List.append_cancel_left g; simpa using this)
      simp only [TreS.kid, if_neg this]
  · intro p hp e g
    rcases hA.new with h | ⟨_, h⟩
    · exact e (hT.minj p hp q hq m g h)
    · have := fm p hp m g; omega
  · intro p hp e e0
    rw [oth _ (fun g => e0 (hT.inj p hp [] hr0 g)) (fun g => n6 ⟨p, hp, .inl g⟩)]
    exact hA.rest _ (fb p hp) (fun g => e (hT.inj p hp q hq g)) (bm p hp q hq)
  · intro p hp e m' hm'
    rw [oth _ (fun g => bm [] hr0 p hp (g ▸ hm')) (fun g => n6 ⟨p, hp, .inr (g ▸ hm')⟩)]
    exact hA.rest _ (fm p hp m' hm') (fun g => bm q hq p hp (g ▸ hm')) (fun g => e (hT.minj p hp q hq m' hm' g))
  · rcases foot_kid hq hk with h | h | h
    · exact .inl h
    · exact .inr (by omega)
    · rcases hA.new with g | ⟨_, g⟩
      · exact .inl ⟨q, hq, .inr (h ▸ g)⟩
      · exact .inr (by omega)
  · have h1 : Chg (fun k => foot s k ∨ k = b6) W W2 := ⟨hA.os, hA.tape, hA.output, Nat.le_of_lt hA.size, fun k hk hf => hA.rest k hk (fun e => hf (.inl ⟨q, hq, .inl e.symm⟩)) (fun e => hf (.inl ⟨q, hq, .inr e⟩))⟩
    rw [← hW4]
    exact (h1.set _ 3 _ (.inl (.inl ⟨[], hr0, .inl rfl⟩))).set _ 0 _ (.inl (.inr rfl))
end Go.Proofs.Ytbnkecmhmcligaa

/-
  What lies between two rounds of Put, of deepest.
-/
namespace Go.Proofs.Ytbnkecmhmcligaa
set_option linter.unusedVariables false
set_option linter.unusedSimpArgs false
set_option maxRecDepth 20000
open Go.RowKit Go.Shelf Go.Maps Go.WideMaps
set_option maxRecDepth 20000
theorem addP_app (ks : List Nm) (q r : Nm) : ∀ k, k ≤ q.length → addP ks (q ++ r) k = addP ks q k
  | 0, _ => rfl
  | k + 1, hk => by
    simp only [addP]
    rw [addP_app ks q r k (by omega), List.take_append_of_le_length hk]
theorem addK_snoc (ks : List Nm) (q : Nm) (l : List UInt8) : addK ks (q ++ [l]) = if q ++ [l] ∈ addK ks q then addK ks q else addK ks q ++ [q ++ [l]] := by
  unfold addK
  rw [List.length_append, List.length_singleton]
  simp only [addP]
  rw [addP_app ks q [l] q.length (Nat.le_refl _), List.take_of_length_le (by simp)]
theorem addK_nil (ks : List Nm) : addK ks [] = ks := rfl
theorem addK_len (ks : List Nm) (q : Nm) : (addK ks q).length ≤ ks.length + q.length := addP_len ks q q.length
theorem addK_self {ks : List Nm} (h : [] ∈ ks) (q : Nm) : q ∈ addK ks q := (mem_addK h).2 (.inr (List.prefix_refl _))
def PutI (TT NT NP TP : TypeId) (z : Value) (w : World) (s : TreS) (q : Nm) (W : World) : Prop :=
  ∃ s1, TrM TT NT z W s1 (s1.ks.length - 1) ∧ s1.ks = addK s.ks q ∧ s1.vl = s.vl ∧ s1.be [] = s.be [] ∧ (∀ k, foot s1 k → foot s k ∨ w.heap.size ≤ k) ∧ Chg (foot s) w W ∧
    Boxed W w.heap.size TP (.pointer (some ⟨s.be [], 0, none⟩)) ∧ Boxed W (w.heap.size + 1) NP (.pointer (some ⟨s1.be q, 0, none⟩))
theorem Plain.notTr {o : Obj} (h : Plain o) (TT NT : TypeId) : ¬ TrObj TT NT o := by
  rintro (⟨es, c, e⟩ | ⟨cs, e | e⟩)
  · subst e; cases h.2
  · subst e; cases h.1
  · subst e; cases h.1
theorem Boxed.plain {W W' : World} {row : Option Nat} {b : Nat} {t : TypeId} {v : Value} (h : Boxed W b t v) (hg : W.grownBy W' row) (hr : ∀ r, row = some r → ∃ o : Obj, W.heap[r]? = some o ∧ Plain o) : Boxed W' b t v :=
  h.kept hg (fun e => by obtain ⟨o, ho, hp⟩ := hr b e.symm; rw [show W.heap[b]? = _ from h] at ho; cases ho; cases hp.1)
theorem TrM.plain {TT NT : TypeId} {z : Value} {W W' : World} {s : TreS} {more : Nat} {row : Option Nat} (h : TrM TT NT z W s more) (hg : W.grownBy W' row) (hr : ∀ r, row = some r → ∃ o : Obj, W.heap[r]? = some o ∧ Plain o) : TrM TT NT z W' s more :=
  h.grown hg fun k e => by obtain ⟨o, ho, hp⟩ := hr k e; exact h.not_foot ho (hp.notTr TT NT)
theorem putI_own {TT NT NP TP : TypeId} {z : Value} {w : World} {s : TreS} {β : Type} (f : β → Nm) {B : Nat} (hB : w.heap.size ≤ B) : OwnT B (fun pre W => PutI TT NT NP TP z w s (f pre) W) := by
  rintro pre W W' row ⟨s1, h1, h2, h3, h4, h5, h6, h7, h8⟩ hg hr
  have hp : ∀ r, row = some r → ∃ o : Obj, W.heap[r]? = some o ∧ Plain o := fun r e => (hr r e).2
  exact ⟨s1, h1.plain hg hp, h2, h3, h4, h5, h6.trans (Chg.of_grown hg (fun k e => .inl e) : Chg (fun k => row = some k) W W') (fun i hi e => by have := (hr i e).1; omega), Boxed.plain h7 hg hp, Boxed.plain h8 hg hp⟩
/-- A round has found the kid. -/
theorem PutI.found {TT NT NP TP : TypeId} {z : Value} {w W : World} {s s1 : TreS} {q : Nm} {l : List UInt8} (h1 : TrM TT NT z W s1 (s1.ks.length - 1)) (h2 : s1.ks = addK s.ks q) (h3 : s1.vl = s.vl) (h4 : s1.be [] = s.be []) (h5 : ∀ k, foot s1 k → foot s k ∨ w.heap.size ≤ k) (h6 : Chg (foot s) w W)
    (h7 : Boxed W w.heap.size TP (.pointer (some ⟨s.be [], 0, none⟩))) (h8 : Boxed W (w.heap.size + 1) NP (.pointer (some ⟨s1.be q, 0, none⟩))) (hN1 : NP ≠ TT) (hN2 : NP ≠ NT) (hin : q ++ [l] ∈ s1.ks) :
    PutI TT NT NP TP z w s (q ++ [l]) (W.setCell ⟨w.heap.size + 1, 0, none⟩ (.pointer (some ⟨s1.be (q ++ [l]), 0, none⟩))) := by
  refine ⟨s1, h1.grown (grownBy_setCell' W (w.heap.size + 1) _) (fun k e => by cases e; exact h1.not_foot h8 (boxNot hN1 hN2)), ?_, h3, h4, h5, h6.set _ 0 _ (.inr (by omega)), h7.other (by omega) _, h8.set _⟩
  rw [addK_snoc, ← h2, if_pos hin]
/-- A round has made the kid. -/
theorem PutI.made {TT NT NP TP : TypeId} {z : Value} {w W W2 : World} {s s1 : TreS} {q : Nm} {l : List UInt8} (h1 : TrM TT NT z W s1 (s1.ks.length - 1)) (h2 : s1.ks = addK s.ks q) (h3 : s1.vl = s.vl) (h4 : s1.be [] = s.be []) (h5 : ∀ k, foot s1 k → foot s k ∨ w.heap.size ≤ k) (h6 : Chg (foot s) w W)
    (h7 : Boxed W w.heap.size TP (.pointer (some ⟨s.be [], 0, none⟩))) (h8 : Boxed W (w.heap.size + 1) NP (.pointer (some ⟨s1.be q, 0, none⟩))) (hN1 : NP ≠ TT) (hN2 : NP ≠ NT) (hP1 : TP ≠ TT) (hP2 : TP ≠ NT) (hq : q ∈ s1.ks) (hin : q ++ [l] ∉ s1.ks) (hfl : foldL l = l) (hl : l.length ≤ maxLen)
    {D : DataW Unit} (hD : KidsD s1.ks s1.be q D) (hM : Maps.IsMap D) {m : Nat} (hA : Added TT NT z W s1 (s1.ks.length - 1) q l D W2 m) :
    PutI TT NT NP TP z w s (q ++ [l]) ((W2.setCell ⟨s.be [], 3, none⟩ (.int .i64 (((s1.ks.length - 1 : Nat) : Int) + 1))).setCell ⟨w.heap.size + 1, 0, none⟩ (.pointer (some ⟨W.heap.size, 0, none⟩))) ∧
    (∀ k o, W.heap[k]? = some o → ¬ TrObj TT NT o → k ≠ w.heap.size + 1 → ((W2.setCell ⟨s.be [], 3, none⟩ (.int .i64 (((s1.ks.length - 1 : Nat) : Int) + 1))).setCell ⟨w.heap.size + 1, 0, none⟩ (.pointer (some ⟨W.heap.size, 0, none⟩))).heap[k]? = some o) ∧
    W.heap.size ≤ ((W2.setCell ⟨s.be [], 3, none⟩ (.int .i64 (((s1.ks.length - 1 : Nat) : Int) + 1))).setCell ⟨w.heap.size + 1, 0, none⟩ (.pointer (some ⟨W.heap.size, 0, none⟩))).heap.size := by
  obtain ⟨g1, g2, g3⟩ := h1.step hq hin hfl hl hD hM hA (u := .pointer (some ⟨W.heap.size, 0, none⟩)) h8 hN1 hN2
  rw [h4] at g1 g3
  have hlen := h1.len
  have hks : (s1.kid q l W.heap.size m).ks = addK s.ks (q ++ [l]) := by rw [addK_snoc, ← h2, if_neg hin]; rfl
  have hmo : (s1.kid q l W.heap.size m).ks.length - 1 = s1.ks.length - 1 + 1 := by show (s1.ks ++ [q ++ [l]]).length - 1 = _; simp; omega
  have hrest : ∀ k o, W.heap[k]? = some o → ¬ TrObj TT NT o → k ≠ w.heap.size + 1 → ((W2.setCell ⟨s.be [], 3, none⟩ (.int .i64 (((s1.ks.length - 1 : Nat) : Int) + 1))).setCell ⟨w.heap.size + 1, 0, none⟩ (.pointer (some ⟨W.heap.size, 0, none⟩))).heap[k]? = some o := fun k o hk hn hne =>
    (g3.block k (kblock_lt hk) (fun g => by
      rcases g with g | g
      · exact h1.not_foot hk hn g
      · exact hne g)).trans hk
  refine ⟨⟨s1.kid q l W.heap.size m, by rw [hmo]; exact g1, hks, h3, ?_, fun k hk => ?_, ?_, ?_, ?_⟩, hrest, g3.size⟩
  · have : ([] : Nm) ≠ q ++ [l] := by simp
    show (if ([] : Nm) = q ++ [l] then W.heap.size else s1.be []) = _
    rw [if_neg this]; exact h4
  · rcases g2 k hk with g | g
    · exact h5 k g
    · exact .inr (by have := h6.size; omega)
  · refine h6.trans g3 (fun i hi g => ?_)
    rcases g with g | g
    · rcases h5 i g with g | g
      · exact g
      · omega
    · omega
  · exact hrest _ _ h7 (boxNot hP1 hP2) (by omega)
  · have e : (s1.kid q l W.heap.size m).be (q ++ [l]) = W.heap.size := by simp [TreS.kid]
    rw [e]
    exact Boxed.set (v := .pointer (some ⟨s1.be q, 0, none⟩)) _ (by
      show (W2.setCell ⟨s.be [], 3, none⟩ _).heap[w.heap.size + 1]? = _
      have hb6 := hA.keep h1 hq h8 (boxNot hN1 hN2)
      rw [Below.heap_setCell _ ⟨s.be [], 3, none⟩ _ _ (fun g => h1.not_foot h8 (boxNot hN1 hN2) ⟨[], h1.ok.root, .inl (by rw [h4]; exact g.symm)⟩)]
      exact hb6)
theorem setBox_ty {W : World} {b : Nat} {t : TypeId} {v u : Value} (h : Boxed W b t v) (hn : ¬ KTy t) : KeepTy W (W.setCell ⟨b, 0, none⟩ u) :=
  KeepTy.grown (grownBy_setCell' W b u) (fun r e => by cases e; exact ⟨_, h, fun cs t' ht e2 => by injection e2 with _ e3 _; exact hn (e3 ▸ ht)⟩)
theorem rest_keeps {TT NT NP : TypeId} {W W' : World} {b : Nat} {v : Value} (h : ∀ k o, W.heap[k]? = some o → ¬ TrObj TT NT o → k ≠ b → W'.heap[k]? = some o) (hs : W.heap.size ≤ W'.heap.size) (hb : Boxed W b NP v) (h1 : ¬ KTy TT) (h2 : ¬ KTy NT) (h3 : ¬ KTy NP) (B : Nat) : KeepsT B W W' ∧ KeepTy W W' := by
  refine ⟨⟨hs, fun k o _ hk hp => h k o hk (hp.notTr TT NT) (fun e => ?_)⟩, hs, fun k cs t ht hk => h k _ hk ?_ (fun e => ?_)⟩
  · subst e; rw [show W.heap[k]? = _ from hb] at hk; cases hk; cases hp.1
  · rintro (⟨es, c, e⟩ | ⟨cs', e | e⟩)
    · cases e
    · injection e with _ e _; exact h1 (e ▸ ht)
    · injection e with _ e _; exact h2 (e ▸ ht)
  · subst e; rw [show W.heap[k]? = _ from hb] at hk; injection hk with hk; injection hk with _ e _; exact h3 (e ▸ ht)
end Go.Proofs.Ytbnkecmhmcligaa

