/-
  (*Tree[int]).all: its iterator; Names.
-/
import Derived.Test.YtbnkecmhmcligaaMQ43
import Derived.Test.YtbnkecmhmcligaaMQ19
namespace Go.Proofs.Ytbnkecmhmcligaa
set_option linter.unusedVariables false
set_option linter.unusedSimpArgs false
set_option maxRecDepth 20000
open Go.RowKit Go.Shelf Go.Maps Go.WideMaps
set_option maxRecDepth 20000
theorem subT_pre {ks : List Nm} {p : Nm} (hp : p ∈ ks) : ∀ {h : TreeOK ks}, ∃ r, subT ks p = p :: r := by
  intro h
  have hr : Rising (subT ks p) := (srtT_rising h).filter _
  have hm : p ∈ subT ks p := mem_subT.2 ⟨hp, List.prefix_refl _⟩
  cases hs : subT ks p with
  | nil => rw [hs] at hm; cases hm
  | cons x r =>
    rw [hs] at hm hr
    rcases List.mem_cons.1 hm with rfl | hm
    · exact ⟨r, rfl⟩
    · have h1 := (List.pairwise_cons.1 hr).1 p hm
      have hx : x ∈ subT ks p := by rw [hs]; simp
      obtain ⟨_, t, ht⟩ := mem_subT.1 hx
      cases t with
      | nil =>
        have : x = p := by rw [← ht]; simp
        subst this
        exact ⟨r, rfl⟩
      | cons l t =>
        have h2 := cmpR_pre p l t
        rw [ht] at h2
        have := cmpR_swap p x
        omega
theorem remT_len {ks : List Nm} (st : List El) (h : ∀ x ∈ st, x.2 ∈ ks) : st.length ≤ (remT ks st).length := by
  have key : ∀ l : List El, (∀ x ∈ l, x.2 ∈ ks) → l.length ≤ (l.flatMap fun x => subT ks x.2).length := by
    intro l
    induction l with
    | nil => intro _; exact Nat.zero_le _
    | cons x l ih =>
      intro h
      have h1 : 0 < (subT ks x.2).length := List.length_pos_of_mem (mem_subT.2 ⟨h x (by simp), List.prefix_refl _⟩)
      have h2 := ih (fun y hy => h y (by simp [hy]))
      rw [List.flatMap_cons, List.length_append, List.length_cons]
      omega
  have := key st.reverse (fun x hx => h x (by simpa using hx))
  rw [List.length_reverse] at this
  exact this
theorem flat_len2 {α : Type} {enc : α → List Value} (h : ∀ x, (enc x).length = 2) : ∀ l : List α, (l.flatMap enc).length = l.length * 2
  | [] => rfl
  | x :: l => by rw [List.flatMap_cons, List.length_append, h, flat_len2 h l, List.length_cons]; omega
theorem OwnK.last2 {α : Type} {T : TypeId} {enc : α → List Value} {W : World} {base : Nat} {a : Option Addr} {n c : Nat} {xs : List α} {x : α} {u0 u1 : Value} (h : OwnK 2 T enc W base (.slice a n c) (xs ++ [x])) (hl : ∀ x, (enc x).length = 2) (he : enc x = [u0, u1]) :
    ∃ g, a = some ⟨g, 0, none⟩ ∧ c ≤ maxLen ∧ n ≤ c ∧ W.cell? ⟨g, xs.length * 2, none⟩ = some u0 ∧ W.cell? ⟨g, xs.length * 2 + 1, none⟩ = some u1 := by
  unfold OwnK World.ownsRow at h
  rcases h.2 with ⟨e, h0⟩ | ⟨g, cap, cur, e, hb, hg, hc, hmx, hsz, htk⟩
  · simp at h0
  · cases e
    have hf := flat_len2 hl xs
    have hg1 : ∀ j u, j < (xs.length + 1) * 2 → ((xs ++ [x]).flatMap enc)[j]? = some u → W.cell? ⟨g, j, none⟩ = some u := fun j u hj hu => by
      rw [← htk, List.length_append, List.length_singleton, List.getElem?_take, if_pos hj] at hu
      exact kcell hg j u (by rw [← Array.getElem?_toList]; exact hu)
    rw [List.flatMap_append] at hg1
    refine ⟨g, rfl, hmx, by rw [List.length_append] at hc; simpa using hc, hg1 _ _ (by omega) ?_, hg1 _ _ (by omega) ?_⟩
    · rw [List.getElem?_append_right (by omega), hf]; simp [he]
    · rw [List.getElem?_append_right (by omega), hf, show xs.length * 2 + 1 - xs.length * 2 = 1 by omega]; simp [he]
theorem keepN_same {W W' : World} {b base : Nat} {t : TypeId} {v : Value} {xs : Nm} (hb : Boxed W b t v) (ho : OwnG 9 strV W base v xs) (h1 : W'.heap[b]? = some (.cells #[v] t)) (h2 : ∀ (j : Nat) (cs : Array Value), W.heap[j]? = some (Obj.cells cs 9) → W'.heap[j]? = some (Obj.cells cs 9)) : KeepN b v W W' := by
  refine ⟨h1.trans hb.symm, fun g hg => ?_⟩
  unfold OwnG World.ownsRow at ho
  rcases ho.2 with ⟨e, _⟩ | ⟨g', cap, cur, e, _, hbl, _⟩
  · rw [e] at hg; cases hg
  · rw [e] at hg
    have : g = g' := by
      generalize List.length _ = q at hg
      cases q with
      | zero => cases hg
      | succ q => cases hg; rfl
    subst this
    exact (h2 g cur hbl).trans hbl.symm
/-- At the head of the loop over the list. -/
def AllS (TT NT PT PLT : TypeId) (z : Value) (s : TreS) (more : Nat) (N0 : Nat) (J : List El → World → Prop) (xs st : List El) (W : World) : Prop :=
  TrM TT NT z W s more ∧ StkAt PT PLT W N0 (N0 + 1) none s st ∧ srtT s.ks = xs.map (·.2) ++ remT s.ks st ∧ J xs W ∧ N0 + 2 ≤ W.heap.size
theorem stk_start {PT PLT : TypeId} {w W : World} {s : TreS} (hr : [] ∈ s.ks) (hW : W = (w.alloc (.cells #[.pointer (some ⟨s.be [], 0, none⟩), .slice none 0 0] PT)).alloc (.cells #[.slice (some ⟨w.heap.size, 0, none⟩) 1 1] PLT)) : StkAt PT PLT W w.heap.size (w.heap.size + 1) none s [((none, 0, 0), [])] := by
  subst hW
  have h := knew (w.alloc (.cells #[.pointer (some ⟨s.be [], 0, none⟩), .slice none 0 0] PT)) (.cells #[.slice (some ⟨w.heap.size, 0, none⟩) 1 1] PLT)
  rw [World.size_alloc] at h
  refine ⟨_, _, _, h, ⟨rfl, .inr ⟨w.heap.size, 1, #[.pointer (some ⟨s.be [], 0, none⟩), .slice none 0 0], rfl, Nat.le_refl _, (Below.heap_alloc _ _ _ (by simp)).trans (knew w _), Nat.le_refl _, by unfold maxLen; omega, rfl, rfl⟩⟩, fun x hx => ?_, fun b e => (by cases e)⟩
  obtain rfl := List.mem_singleton.1 hx
  exact ⟨hr, OwnG.nil _ _⟩
theorem KeepsT.grown0 {B : Nat} {W W' : World} {row : Option Nat} (hg : W.grownBy W' row) (hr : ∀ r, row = some r → ∃ (cs : Array Value) (t : TypeId), W.heap[r]? = some (Obj.cells cs t)) : KeepsT B W W' :=
  KeepsT.of_grownBy hg fun j o e ho hp => by obtain ⟨cs, t, h⟩ := hr j e; rw [h] at ho; cases ho; cases hp.1
/-- In the round's range over the kids. -/
def KidI (TT NT PT PLT : TypeId) (z : Value) (s : TreS) (more : Nat) (N0 b4 bS : Nat) (vs : Value) (ss : List (List UInt8)) (x : El) (st : List El) (Ds : List Nat) (Bk : Nat) (J : World → Prop) (pre : List (Fin ss.length)) (W : World) : Prop :=
  ∃ add : List El, add.map (·.2) = pre.map (fun i => x.2 ++ [ss[i]]) ∧ TrM TT NT z W s more ∧ StkAt PT PLT W N0 (N0 + 1) (some b4) s (st ++ add) ∧ W.heap[b4]? = some (.cells #[.pointer (some ⟨s.be x.2, 0, none⟩), hdV x.1] PT) ∧ OwnNm W N0 x ∧ J W ∧ (MarksT (N0 + 2) Ds W ∧ ∀ D ∈ Ds, D < Bk) ∧ Boxed W bS 27 vs ∧ OwnG 9 strV W N0 vs ss ∧ N0 + 2 ≤ W.heap.size
theorem kidI_own {TT NT PT PLT : TypeId} {z : Value} {s : TreS} {more N0 b4 bS : Nat} {vs : Value} {ss : List (List UInt8)} {x : El} {st : List El} {Ds : List Nat} {J : World → Prop} {B : Nat}
    (hJ : ∀ W W' row, J W → W.grownBy W' row → (∀ r, row = some r → B ≤ r ∧ ∃ o : Obj, W.heap[r]? = some o ∧ Plain o) → J W') (hB : N0 + 2 ≤ B) : OwnT B (KidI TT NT PT PLT z s more N0 b4 bS vs ss x st Ds B J) := by
  rintro pre W W' row ⟨add, a1, a2, a3, a4, a5, a6, a7, a8, a9, a10⟩ hg hr
  have hp : ∀ r, row = some r → ∃ o : Obj, W.heap[r]? = some o ∧ Plain o := fun r e => (hr r e).2
  have keepC : ∀ (j : Nat) (cs : Array Value) (t : TypeId), W.heap[j]? = some (Obj.cells cs t) → W'.heap[j]? = some (Obj.cells cs t) := fun j cs t hj => (hg.block j (kblock_lt hj) (fun e => by
    obtain ⟨o, ho, h1⟩ := hp j e.symm
    rw [hj] at ho; cases ho; cases h1.1)).trans hj
  exact ⟨add, a1, a2.plain hg hp, a3.plain hg hp, keepC _ _ _ a4, OwnG.same a5 (fun j cs hj => keepC j cs _ hj), hJ W W' row a6 hg hr, ⟨⟨a7.1.1, fun D hD => ⟨(a7.1.2 D hD).1, (hg.block D (a7.1.lt D hD) (fun e => by have := (hr D e.symm).1; have := a7.2 D hD; omega)).trans (a7.1.2 D hD).2⟩⟩, a7.2⟩, keepC _ _ _ a8, OwnG.same a9 (fun j cs hj => keepC j cs _ hj), Nat.le_trans a10 hg.size⟩
theorem KidI.push {TT NT PT PLT : TypeId} {z : Value} {s : TreS} {more N0 b4 bS : Nat} {vs : Value} {ss : List (List UInt8)} {x : El} {st : List El} {Ds : List Nat} {Bk : Nat} {J : World → Prop} {W6 w7 w8 : World} {pre : List (Fin ss.length)} {i : Fin ss.length} {l : List UInt8} {add : List El} {la ya : Option Addr} {ln lc yn yc g8 n8 c8 K1 : Nat}
    (h0 : PLT ≠ PT ∧ PT ≠ 9 ∧ PLT ≠ 9 ∧ PT ≠ TT ∧ PT ≠ NT ∧ PLT ≠ TT ∧ PLT ≠ NT ∧ PT ≠ 27 ∧ PLT ≠ 27) (hl : ss[i] = l) (hkin : x.2 ++ [l] ∈ s.ks) (hK1 : s.be (x.2 ++ [l]) = K1)
    (hJ : ∀ W W' row, J W → W.grownBy W' row → (∀ r, row = some r → N0 ≤ r ∧ ∃ (cs : Array Value) (t : TypeId), W.heap[r]? = some (Obj.cells cs t) ∧ (t = PT ∨ t = PLT)) → J W')
    (a1 : add.map (·.2) = pre.map (fun i => x.2 ++ [ss[i]])) (a2 : TrM TT NT z W6 s more) (q1 : W6.heap[N0 + 1]? = some (.cells #[.slice la ln lc] PLT)) (q2 : OwnK 2 PT (plE s.be) W6 N0 (.slice la ln lc) (st ++ add)) (q3 : ∀ x ∈ st ++ add, x.2 ∈ s.ks ∧ OwnNm W6 N0 x) (q4 : (Value.slice la ln lc).ownBlock ≠ some b4)
    (a4 : W6.heap[b4]? = some (.cells #[.pointer (some ⟨s.be x.2, 0, none⟩), hdV x.1] PT)) (a5 : OwnNm W6 N0 x) (a6 : J W6) (a7 : MarksT (N0 + 2) Ds W6 ∧ ∀ D ∈ Ds, D < Bk) (a8 : Boxed W6 bS 27 vs) (a9 : OwnG 9 strV W6 N0 vs ss) (a10 : N0 + 2 ≤ W6.heap.size)
    (hb7 : Below W6.drew.heap.size W6.drew w7) (hn7 : OwnG 9 strV w7 W6.drew.heap.size (.slice ya yn yc) (l :: x.2.reverse))
    (ho8 : OwnK 2 PT (plE s.be) w8 N0 (.slice (some ⟨g8, 0, none⟩) n8 c8) ((st ++ add) ++ [((ya, yn, yc), x.2 ++ [l])])) (hg8 : (w7.alloc (.cells #[.pointer (some ⟨K1, 0, none⟩), .slice ya yn yc] PT)).grownBy w8 (Value.slice la ln lc).ownBlock) (hl8 : (Value.slice la ln lc).ownBlock = some g8 ∨ g8 = w7.heap.size + 1) :
    (KeepsT Bk W6 (w8.setCell ⟨N0 + 1, 0, none⟩ (.slice (some ⟨g8, 0, none⟩) n8 c8)) ∧ KeepN bS vs W6 (w8.setCell ⟨N0 + 1, 0, none⟩ (.slice (some ⟨g8, 0, none⟩) n8 c8)) ∧ KidI TT NT PT PLT z s more N0 b4 bS vs ss x st Ds Bk J (pre ++ [i]) (w8.setCell ⟨N0 + 1, 0, none⟩ (.slice (some ⟨g8, 0, none⟩) n8 c8))) ∧
    w8.heap[N0 + 1]? = some (.cells #[.slice la ln lc] PLT) ∧ w8.heap[b4]? = some (.cells #[.pointer (some ⟨s.be x.2, 0, none⟩), hdV x.1] PT) ∧ TrM TT NT z w8 s more := by
  obtain ⟨h01, h02, h03, h04, h05, h06, h07, h08, h09⟩ := h0
  have hb67 : Below W6.heap.size W6 w7 := ((Below.refl W6.heap.size W6).drew).trans hb7
  have hbA := (Below.refl w7.heap.size w7).alloc (Nat.le_refl _) (.cells #[.pointer (some ⟨K1, 0, none⟩), .slice ya yn yc] PT)
  have hb6A : Below W6.heap.size W6 (w7.alloc (.cells #[.pointer (some ⟨K1, 0, none⟩), .slice ya yn yc] PT)) := hb67.trans (hbA.mono hb67.size)
  have hownA := OwnK.below q2 hb6A
  have own_ne : ∀ (j : Nat) (o : Obj), W6.heap[j]? = some o → (∀ cs, o ≠ .cells cs PT) → (Value.slice la ln lc).ownBlock ≠ some j := fun j o hj hn e => by
    obtain ⟨cs, hc⟩ := q2.blkT j e
    rw [hj] at hc; cases hc; exact hn cs rfl
  have keep8 : ∀ (j : Nat) (o : Obj), W6.heap[j]? = some o → (Value.slice la ln lc).ownBlock ≠ some j → w8.heap[j]? = some o := fun j o hj hn =>
    (hg8.block j (Nat.lt_of_lt_of_le (kblock_lt hj) hb6A.size) (fun e => hn e.symm)).trans ((hb6A.block j (kblock_lt hj)).trans hj)
  have keep9 : ∀ (j : Nat) (o : Obj), W6.heap[j]? = some o → (Value.slice la ln lc).ownBlock ≠ some j → j ≠ N0 + 1 → (w8.setCell ⟨N0 + 1, 0, none⟩ (.slice (some ⟨g8, 0, none⟩) n8 c8)).heap[j]? = some o := fun j o hj hn hne =>
    (Below.heap_setCell _ ⟨N0 + 1, 0, none⟩ _ _ hne).trans (keep8 j o hj hn)
  have keepC : ∀ (j : Nat) (cs : Array Value) (t : TypeId), t ≠ PT → t ≠ PLT → W6.heap[j]? = some (Obj.cells cs t) → (w8.setCell ⟨N0 + 1, 0, none⟩ (.slice (some ⟨g8, 0, none⟩) n8 c8)).heap[j]? = some (Obj.cells cs t) := fun j cs t h1 h2 hj =>
    keep9 j _ hj (own_ne j _ hj (fun cs' e => by injection e with _ e _; exact h1 e)) (fun e => by subst e; rw [q1] at hj; injection hj with hj; injection hj with _ e _; exact h2 e.symm)
  have keepP : ∀ (j : Nat) (o : Obj), W6.heap[j]? = some o → Plain o → (w8.setCell ⟨N0 + 1, 0, none⟩ (.slice (some ⟨g8, 0, none⟩) n8 c8)).heap[j]? = some o := fun j o hj hp =>
    keep9 j o hj (own_ne j o hj (fun cs e => by subst e; cases hp.1)) (fun e => by subst e; rw [q1] at hj; cases hj; cases hp.1)
  have hx' : OwnNm w7 N0 ((ya, yn, yc), x.2 ++ [l]) := by
    unfold OwnNm
    have : (x.2 ++ [l]).reverse = l :: x.2.reverse := by simp
    show OwnG 9 strV w7 N0 (.slice ya yn yc) (x.2 ++ [l]).reverse
    rw [this]
    exact OwnG.weaken hn7 (show N0 ≤ W6.heap.size by omega)
  have hpl : plE s.be ((ya, yn, yc), x.2 ++ [l]) = [.pointer (some ⟨K1, 0, none⟩), .slice ya yn yc] := by unfold plE hdV; rw [hK1]
  obtain ⟨p1, p2⟩ := StkAt.push (av := some b4) (s := s) (x := ((ya, yn, yc), x.2 ++ [l])) h01 h02 h03 ((hb67.block _ (kblock_lt q1)).trans q1) (OwnK.below q2 hb67) (fun y hy => ⟨(q3 y hy).1, OwnG.below (q3 y hy).2 hb67⟩) hkin hx' ho8 (by rw [hpl]; exact hg8) hl8 (fun b e => by cases e; exact ⟨q4, Nat.lt_of_lt_of_le (kblock_lt a4) hb67.size⟩)
  have hT8 : TrM TT NT z w8 s more := (a2.below hb6A).grown hg8 (fun k e => by
    obtain ⟨cs, hc⟩ := hownA.blkT k e
    exact (a2.below hb6A).not_foot hc (by
      rintro (⟨es, c, e2⟩ | ⟨cs', e2 | e2⟩)
      · cases e2
      · injection e2 with _ e3 _; exact h04 e3
      · injection e2 with _ e3 _; exact h05 e3))
  have hJ9 : J (w8.setCell ⟨N0 + 1, 0, none⟩ (.slice (some ⟨g8, 0, none⟩) n8 c8)) := by
    refine hJ _ _ (some (N0 + 1)) (hJ _ _ _ (hJ _ _ none a6 (grownT_below hb6A) (fun r e => by cases e)) hg8 (fun r e => ?_)) (grownBy_setCell' w8 (N0 + 1) _) (fun r e => ?_)
    · obtain ⟨cs, hc⟩ := hownA.blkT r e
      exact ⟨hownA.base_le r e, cs, PT, hc, .inl rfl⟩
    · cases e
      exact ⟨by omega, _, _, p2, .inr rfl⟩
  have h48 := keep8 b4 _ a4 q4
  have hb43 : b4 ≠ N0 + 1 := fun e => by subst e; rw [q1] at a4; injection a4 with a4; injection a4 with _ e _; exact h01 e
  have hsz9 : W6.heap.size ≤ (w8.setCell ⟨N0 + 1, 0, none⟩ (.slice (some ⟨g8, 0, none⟩) n8 c8)).heap.size := by
    have h1 := hb6A.size; have h2 := hg8.size
    simp only [World.setCell, Array.size_modify]; omega
  refine ⟨⟨⟨hsz9, fun j o _ hj hp => keepP j o hj hp⟩, keepN_same a8 a9 (keepC _ _ _ h08.symm h09.symm a8) (fun j cs hj => keepC j cs _ h02.symm h03.symm hj), add ++ [((ya, yn, yc), x.2 ++ [l])], by rw [List.map_append, List.map_append, a1, ← hl]; rfl, ?_, by rw [← List.append_assoc]; exact p1, keep9 b4 _ a4 q4 hb43, OwnG.same a5 (fun j cs hj => keepC j cs _ h02.symm h03.symm hj), hJ9, ⟨a7.1.kept (fun D o _ hD hp => keepP D o hD hp), a7.2⟩, keepC _ _ _ h08.symm h09.symm a8, OwnG.same a9 (fun j cs hj => keepC j cs _ h02.symm h03.symm hj), by omega⟩, p2, h48, hT8⟩
  exact hT8.grown (grownBy_setCell' w8 (N0 + 1) _) (fun k e => by cases e; exact hT8.not_foot p2 (boxNot h06 h07))
theorem elem_pl_i : ElemK 2 81 82 32 := ⟨Try.underlying82, _, _, rfl, rfl, rfl, rfl, rfl⟩
def YAll_i (o : Obj) : Prop := Plain o ∨ ∃ cs t, o = .cells cs t ∧ (t = 81 ∨ t = 82)
theorem step_append_pl_i {ops : Array Oper} {o : Oper} {a : Act} {K : Act → World → Prop} {Q : Exit → Act → World → Prop} {E : Prop} (enc : El → List Value) (w7 : World) (x : El) (K1 : Nat) (ya : Option Addr) (yn yc N0 : Nat) (la : Option Addr) (ln lc : Nat) (st : List El) (hx : enc x = [.pointer (some ⟨K1, 0, none⟩), .slice ya yn yc])
    (hown : OwnK 2 81 enc (w7.alloc (.cells #[.pointer (some ⟨K1, 0, none⟩), .slice ya yn yc] 81)) N0 (.slice la ln lc) st) (hn0 : N0 ≤ w7.heap.size) (hl : st.length ≤ 1099511627776)
    (h1 : o.guard = none) (s y : Operand) (h2 : o.op = .call { callee := .builtin .append, args := #[s, y], argTypes := #[82, 82] }) (h3 : a.eval s = .slice la ln lc) (h4 : a.eval y = .slice (some ⟨w7.heap.size, 0, none⟩) 1 1)
    (h : ∀ (g8 n8 c8 : Nat) (w8 : World), OwnK 2 81 enc w8 N0 (.slice (some ⟨g8, 0, none⟩) n8 c8) (st ++ [x]) → (w7.alloc (.cells #[.pointer (some ⟨K1, 0, none⟩), .slice ya yn yc] 81)).grownBy w8 (Value.slice la ln lc).ownBlock → ((Value.slice la ln lc).ownBlock = some g8 ∨ g8 = w7.heap.size + 1) → K (a.put o.dst (.slice (some ⟨g8, 0, none⟩) n8 c8)) w8) :
    if Region.wanted o (yielded ops a.tmps) = true then Oper.wp Try.prog o a (w7.alloc (.cells #[.pointer (some ⟨K1, 0, none⟩), .slice ya yn yc] 81)) K Q else E := by
  obtain ⟨ht, i, z, hi, hz, hz1, hz2, hzc⟩ := elem_pl_i
  refine step_append_lies _ h1 s y _ h2 N0 81 i z 2 32 ht hi hz hz1 hz2 hzc (by decide) (.slice la ln lc) st.length (st.flatMap enc) h3 hown ⟨w7.heap.size, 0, none⟩ 1 1 [.pointer (some ⟨K1, 0, none⟩), .slice ya yn yc] h4 rfl (World.news_of_block (cs := #[.pointer (some ⟨K1, 0, none⟩), .slice ya yn yc]) (t := 81) (fr := (0, 0)) (knew w7 _)) (fun u hu => by
    rcases List.mem_cons.1 hu with rfl | hu
    · rfl
    · obtain rfl := List.mem_singleton.1 hu; rfl) (by decide) (by unfold maxLen; omega) (by omega) (by rw [World.size_alloc]; omega) (w7.heap.size + 1) (World.size_alloc _ _) ?_
  intro g cap w' q1 q2 q3 q4
  refine h g _ cap w' ?_ q2 q3
  unfold OwnK
  rw [List.length_append, List.flatMap_append]
  simp only [List.flatMap_cons, List.flatMap_nil, List.append_nil, hx]
  exact q1
section
attribute [local go_sem] Oper.semAt_some
set_option maxRecDepth 100000 in
set_option maxHeartbeats 8000000 in
theorem all1_in_i (l b1 : Nat) (s : TreS) (more : Nat) (W : World) (J Jx : List El → World → Prop) (hJ : OwnY YAll_i W.heap.size J) (hJx : OwnY YAll_i W.heap.size Jx)
    (hY : ∀ pre x W1, J pre W1 → OwnNm W1 W.heap.size x → pre.length < s.ks.length → YieldAt Fence.wide 5 Try.prog l (elV x) W1 fun e W' =>
      (e = .returned (.bool true) ∧ J (pre ++ [x]) W' ∧ KeepAl W1 W' ∧ KeepsT W.heap.size W1 W') ∨ (e = .returned (.bool false) ∧ Jx (pre ++ [x]) W' ∧ KeepsT W.heap.size W1 W'))
    (hT : TrM 62 60 (.int .i64 0) W s more) (hb : Boxed W b1 35 (.pointer (some ⟨s.be [], 0, none⟩))) (hsz : s.ks.length ≤ 1048576) (hdeep : ∀ p ∈ s.ks, p.length ≤ 1048576 ∧ ∀ l ∈ p, l.length ≤ 1048576) (h0 : J [] W) :
    Calls Try.prog 41 #[.func (.yield l) #[] #[], .pointer (some ⟨b1, 0, none⟩)] W fun e W' => (∃ v, e = .returned v) ∧
      ((∃ xs : List El, xs.map (·.2) = srtT s.ks ∧ J xs W') ∨ (∃ pre : List El, pre.map (·.2) <+: srtT s.ks ∧ Jx pre W')) := by
  have c1 := hb.cell
  have HT := Lib.hid hT; have HJ := Lib.hid hJ; have HJX := Lib.hid hJx; have HY := Lib.hid hY; have HSZ := Lib.hid hsz; have HDP := Lib.hid hdeep; have HJ0 := Lib.hid h0
  clear hT hJ hJx hY hsz hdeep h0 hb
  obtain ⟨B, hB⟩ : ∃ B, s.be [] = B := ⟨_, rfl⟩
  rw [hB] at c1
  have HB := Lib.hid hB
  clear hB
  refine (callsIn_wide (n := 9)).1 ?_
  refine callsIn_of_wp_marks Try.func41 rfl trivial ?_ rfl
  simp only [Try.ntmps41, List.size_toArray, List.length_cons, List.length_nil, Nat.reduceAdd, Nat.reduceSub, Array.replicate_succ, Array.replicate_zero, List.push_toArray, List.append_toArray, List.nil_append, List.cons_append]
  refine wpIn_wide.2 ?_
  obtain ⟨W0, hW0⟩ : ∃ W0, (W.alloc (.cells #[.pointer (some ⟨B, 0, none⟩), .slice none 0 0] 81)).alloc (.cells #[.slice (some ⟨W.heap.size, 0, none⟩) 1 1] 82) = W0 := ⟨_, rfl⟩
  have hB0 : Below W.heap.size W W0 := by rw [← hW0]; exact ((Below.refl W.heap.size W).alloc (Nat.le_refl _) _).alloc (by simp) _
  have hz0 : W0.heap.size = W.heap.size + 2 := by rw [← hW0]; simp
  have hA0 : AllS 62 60 81 82 (.int .i64 0) s more W.heap.size J [] [((none, 0, 0), [])] W0 :=
    ⟨HT.out.below hB0, stk_start HT.out.ok.root (by rw [HB.out]; exact hW0.symm), by simp [remT, subT_root], by rw [← hW0]; exact HJ.out.alloc _ (HJ.out.alloc _ HJ0.out), by omega⟩
  have HA0 := Lib.hid hA0; have HW0 := Lib.hid hW0; have HZ0 := Lib.hid hz0
  clear hB0 hz0 hA0 hW0
  go_wp2
  rw [HW0.out]
  clear HW0 c1
  refine wp_loop_ghost (fun k a' wr => ∃ (u4 u12 u13 u14 u15 u16 u17 u18 u19 u20 u21 u22 u23 u24 u25 u26 u27 u28 u29 u30 u31 u32 u33 u34 : Value) (xs st : List El) (Ds : List Nat), (k = s.ks.length + 1 - xs.length ∧ Hid (AllS 62 60 81 82 (.int .i64 0) s more W.heap.size J xs st wr) ∧ Hid (MarksT (W.heap.size + 2) Ds wr)) ∧
      a' = { tmps := #[.func (.yield l) #[] #[], .pointer (some ⟨b1, 0, none⟩), undef, .pointer (some ⟨W.heap.size + 1, 0, none⟩), u4, undef, undef, .pointer (some ⟨B, 0, none⟩), .pointer (some ⟨B, 0, none⟩), .pointer (some ⟨B, 0, none⟩), .agg #[.pointer (some ⟨B, 0, none⟩), .slice none 0 0], .slice (some ⟨W.heap.size, 0, none⟩) 1 1, u12, u13, u14, u15, u16, u17, u18, u19, u20, u21, u22, u23, u24, u25, u26, u27, u28, u29, u30, u31, u32, u33, u34, undef, undef, undef, undef, undef, undef, undef, undef, undef, undef, undef, undef, undef, undef, undef, undef, undef], defers := Ds.map markT }) (s.ks.length + 1) ?_ ?_
  · exact ⟨_, _, _, _, _, _, _, _, _, _, _, _, _, _, _, _, _, _, _, _, _, _, _, _, [], [((none, 0, 0), [])], [], ⟨by simp, HA0, Lib.hid (MarksT.nil _ _)⟩, rfl⟩
  clear HA0 HZ0 HJ0
  rintro gk _ wr ⟨u4, u12, u13, u14, u15, u16, u17, u18, u19, u20, u21, u22, u23, u24, u25, u26, u27, u28, u29, u30, u31, u32, u33, u34, xs, st, Ds, ⟨hgk, HA, HM⟩, ha⟩
  subst ha
  obtain ⟨hT, hS, hR, hJ1, hsz⟩ := HA.out
  rcases List.eq_nil_or_concat st with rfl | ⟨st0, x, rfl⟩
  · obtain ⟨a, n, c, g1, g2, _, _⟩ := hS
    obtain ⟨a', c', e⟩ := g2.shape
    injection e with _ e _
    obtain rfl : n = 0 := e
    have c3 := kcell g1 0 _ rfl
    have hend : xs.map (·.2) = srtT s.ks := by rw [hR]; simp [remT]
    have HE := Lib.hid hend; have HJ1 := Lib.hid hJ1
    clear hT g1 g2 hR hJ1 hsz hend hgk HA
    go_wp2
    refine leaves_marksT (I := J xs) (fun W5 D h1 h2 h3 => HJ.out.putObj _ h1 (by omega) h3 (.inl ⟨rfl, rfl⟩)) Ds wr HM.out HJ1.out (fun W5 h5 => ⟨_, results_none rfl _ _ _, ⟨_, rfl⟩, .inl ⟨xs, HE.out, h5⟩⟩)
  · rw [List.concat_eq_append] at hS hR
    obtain ⟨a, c, g1, g2, g3⟩ := hS.pop
    obtain ⟨g, rfl, hcm, hnc, e0, e1⟩ := g2.last2 (fun x => rfl) (rfl : plE s.be x = _)
    have hx := (StkAt.move hS (fun _ _ h _ => h))
    obtain ⟨hxk, hxn⟩ : x.2 ∈ s.ks ∧ OwnNm wr W.heap.size x := by obtain ⟨_, _, _, _, _, h, _⟩ := hS; exact h x (by simp)
    have hall : ∀ y ∈ st0, y.2 ∈ s.ks ∧ OwnNm wr W.heap.size y := fun y hy => by obtain ⟨_, _, _, _, _, h, _⟩ := hS; exact h y (by simp [hy])
    obtain ⟨n, hn⟩ : ∃ n, st0.length = n := ⟨_, rfl⟩
    obtain ⟨nn, hnn⟩ : ∃ nn, n + 1 = nn := ⟨_, rfl⟩
    rw [hn] at g1 g2 g3 e0 e1 hnc
    rw [hnn] at g1 hnc
    obtain ⟨nb, hnb⟩ : ∃ nb, s.be x.2 = nb := ⟨_, rfl⟩
    obtain ⟨⟨pa, pn, pc⟩, px⟩ := x
    simp only [hdV] at e1 hnb
    rw [hnb] at e0
    have c3 := kcell g1 0 _ rfl
    have hb1 : Below wr.heap.size wr (wr.alloc (.cells #[.pointer (some ⟨nb, 0, none⟩), .slice pa pn pc] 81)) := (Below.refl _ wr).alloc (Nat.le_refl _) _
    have g1a := (hb1.block _ (kblock_lt g1)).trans g1
    have c3a := kcell g1a 0 _ rfl; have f3a := kfrozen g1a 0
    have hgt : (0 : Int) < (nn : Int) := by omega
    have hsub : (nn : Int) - 1 = (n : Int) := by omega
    have hidx : (n : Int) < (nn : Int) := by omega
    have hic : (n : Int) ≤ (c : Int) := by omega
    have hicn : n ≤ c := by omega
    have hnB : n ≤ 9223372036854775806 := by unfold maxLen at hcm; omega
    clear hcm
    obtain ⟨W2, hW2⟩ : ∃ W2, (wr.alloc (.cells #[.pointer (some ⟨nb, 0, none⟩), .slice pa pn pc] 81)).setCell ⟨W.heap.size + 1, 0, none⟩ (.slice (some ⟨g, 0, none⟩) n c) = W2 := ⟨_, rfl⟩
    have hb3 : W.heap.size + 1 < wr.heap.size := by omega
    have x4 : W2.heap[wr.heap.size]? = some (.cells #[.pointer (some ⟨nb, 0, none⟩), .slice pa pn pc] 81) := by
      rw [← hW2]; exact (Below.heap_setCell _ ⟨W.heap.size + 1, 0, none⟩ _ _ (by show wr.heap.size ≠ W.heap.size + 1; omega)).trans (knew wr _)
    have hT2 : TrM 62 60 (.int .i64 0) W2 s more := by
      rw [← hW2]; exact (hT.below hb1).grown (grownBy_setCell' _ (W.heap.size + 1) _) (fun k e => by cases e; exact (hT.below hb1).not_foot g1a (boxNot (by decide) (by decide)))
    have keepS : ∀ (j : Nat) (cs : Array Value), wr.heap[j]? = some (Obj.cells cs 9) → W2.heap[j]? = some (Obj.cells cs 9) := fun j cs hj => by
      rw [← hW2]
      exact (Below.heap_setCell _ ⟨W.heap.size + 1, 0, none⟩ _ _ (fun e => by
        have e' : j = W.heap.size + 1 := e
        subst e'; rw [g1] at hj; injection hj with hj; injection hj with _ e2 _; exact absurd e2 (by decide))).trans ((hb1.block _ (kblock_lt hj)).trans hj)
    have hxn2 : OwnNm W2 W.heap.size ((pa, pn, pc), px) := OwnG.same hxn keepS
    have hS2 : StkAt 81 82 W2 W.heap.size (W.heap.size + 1) (some wr.heap.size) s st0 :=
      ⟨_, _, _, by rw [← hW2]; exact kset g1a 0 _, by rw [← hW2, ← hn]; exact OwnK.keptB (OwnK.below (hn ▸ g3) hb1) g1a (by decide) 0 _, fun y hy => ⟨(hall y hy).1, OwnG.same (hall y hy).2 keepS⟩, fun b e e2 => by
        injection e with e; subst e
        have h9 := g3.lt _ e2
        omega⟩
    have hJ2 : J xs W2 := by
      rw [← hW2]
      exact HJ.out xs _ _ (some (W.heap.size + 1)) (HJ.out.alloc _ hJ1) (grownBy_setCell' _ _ _) (fun r e => by cases e; exact ⟨by omega, _, g1a, .inr ⟨_, _, rfl, .inr rfl⟩⟩)
    have hM2 : MarksT (W.heap.size + 2) Ds W2 := by
      refine HM.out.kept (fun D o h1 h2 h3 => ?_)
      rw [← hW2]
      exact (Below.heap_setCell _ ⟨W.heap.size + 1, 0, none⟩ _ _ (by show D ≠ W.heap.size + 1; omega)).trans ((hb1.block _ (kblock_lt h2)).trans h2)
    have hz2 : W2.heap.size = wr.heap.size + 1 := by rw [← hW2]; simp [World.setCell]
    have hR2 : srtT s.ks = xs.map (·.2) ++ (subT s.ks px ++ remT s.ks st0) := by rw [hR, remT_snoc]
    have hlt : xs.length < s.ks.length := by
      have h1 := congrArg List.length hR2
      have h2 : 0 < (subT s.ks px).length := List.length_pos_of_mem (mem_subT.2 ⟨hxk, List.prefix_refl _⟩)
      rw [srtT_len, List.length_append, List.length_append, List.length_map] at h1
      omega
    obtain ⟨fn, tmps, assign, bd, hy, hRd⟩ := HY.out xs ((pa, pn, pc), px) W2 hJ2 hxn2 hlt
    simp only [elV, hdV] at hy
    have c41 := kcell x4 1 _ rfl
    have HW2 := Lib.hid hW2; have HT2 := Lib.hid hT2; have HXN := Lib.hid hxn2; have HS2 := Lib.hid hS2; have HM2 := Lib.hid hM2; have HZ2 := Lib.hid hz2; have HR2 := Lib.hid hR2; have HLT := Lib.hid hlt; have HX4 := Lib.hid x4; have HNB := Lib.hid hnb; have HXK := Lib.hid hxk; have HSZ1 := Lib.hid hsz; have HGK := Lib.hid hgk
    clear hW2 hT2 hxn2 hS2 hM2 hz2 hR2 hlt x4 hnb hxk hsz hJ2 hR hT hS g1 g2 g3 hb1 g1a hJ1 hxn hall keepS hb3 hn hnn HA HM hx hgk
    go_upto_region 4 with (fail)
    rw [HW2.out]
    clear HW2 c3 c3a f3a e0 e1 hgt hsub hidx hic hicn hnc
    refine (wpIn_wide (n := 9)).1 ?_
    gi_wp2
    refine (roundIn_wide hRd).mono ?_
    clear hy hRd c41
    rintro e W3 (⟨rfl, hJ3, hk3, ht3⟩ | ⟨rfl, hJx3, ht3⟩)
    · have hT3 := HT2.out.al hk3 ⟨by decide, by decide⟩ ⟨by decide, by decide⟩
      have hS3 := HS2.out.al hk3 ⟨by decide, by decide⟩ ⟨by decide, by decide⟩
      have x43 := hk3.2 _ _ HX4.out (.inr ⟨_, _, rfl, by decide, by decide⟩)
      have hxn3 : OwnNm W3 W.heap.size ((pa, pn, pc), px) := OwnG.same HXN.out (fun j cs hj => hk3.2 j _ hj (.inr ⟨_, _, rfl, by decide, by decide⟩))
      have hM3 := HM2.out.keepsT ht3 (by omega)
      have hz3 : W.heap.size + 2 ≤ W3.heap.size := by have := HSZ1.out; have := HZ2.out; have := hk3.1; omega
      have hlab := node_labels_i s more px W3 hT3 HXK.out (by have := HSZ.out; omega)
      rw [HNB.out] at hlab
      have c40 := kcell x43 0 _ rfl
      have HT3 := Lib.hid hT3; have HS3 := Lib.hid hS3; have HX43 := Lib.hid x43; have HXN3 := Lib.hid hxn3; have HM3 := Lib.hid hM3; have HZ3 := Lib.hid hz3; have HLAB := Lib.hid hlab; have HJ3 := Lib.hid hJ3
      clear hT3 hS3 x43 hxn3 hM3 hz3 hlab hJ3 hk3 ht3 HT2 HS2 HX4 HXN HM2 HZ2 HSZ1
      gi_wp2
      go_wp2_with fail
      refine HLAB.out.mono ?_
      rintro e W4 ⟨v, ss, rfl, hks, hsl, hos, hb4⟩
      obtain ⟨sa, sc, rfl⟩ := hos.shape
      obtain ⟨sm, hsm⟩ : ∃ m, ss.length = m := ⟨_, rfl⟩
      rw [hsm] at hos ⊢
      have HKS := Lib.hid hks; have HSL := Lib.hid hsl; have HOS := Lib.hid hos; have HB4 := Lib.hid hb4; have HSM := Lib.hid hsm
      clear hks hsl hos hb4 hsm HLAB c40
      go_wp2_with fail
      refine (backS _ _ _ _).mono ?_
      rintro e w5 ⟨rfl, rfl⟩
      go_wp2
      refine (wpIn_wide (n := 9)).1 ?_
      obtain ⟨W5, hW5⟩ : ∃ W5, W4.alloc (.cells #[.slice sa sm sc] 27) = W5 := ⟨_, rfl⟩
      have hb5 : Below W4.heap.size W4 W5 := by rw [← hW5]; exact (Below.refl _ W4).alloc (Nat.le_refl _) _
      have hb35 : Below W3.heap.size W3 W5 := HB4.out.trans (hb5.mono HB4.out.size)
      have x5 : Boxed W5 W4.heap.size 27 (.slice sa sm sc) := by rw [← hW5]; exact Boxed.new W4 _ _
      have hos5 : OwnG 9 strV W5 W.heap.size (.slice sa sm sc) ss := (OwnG.weaken HOS.out (by have := HZ3.out; omega)).below hb5
      have hA5 : StrsAt W5 (.slice sa sm sc) ss := StrsAt.of_own hos5
      have hz5 : W3.heap.size ≤ W5.heap.size := hb35.size
      have hI0 : KidI 62 60 81 82 (.int .i64 0) s more W.heap.size wr.heap.size W4.heap.size (.slice sa sm sc) ss ((pa, pn, pc), px) st0 Ds W5.heap.size (J (xs ++ [((pa, pn, pc), px)])) [] W5 :=
        ⟨[], rfl, HT3.out.below hb35, by rw [List.append_nil]; exact HS3.out.below hb35, by rw [HNB.out]; exact (hb35.block _ (kblock_lt HX43.out)).trans HX43.out, OwnG.below HXN3.out hb35, HJ.out _ _ _ none HJ3.out (grownT_below hb35) (fun r e => by cases e), ⟨HM3.out.below hb35, fun D hD => by have := HM3.out.lt D hD; omega⟩, x5, hos5, by have := HZ3.out; omega⟩
      rw [hW5]
      have HZ5 := Lib.hid (show W.heap.size + 2 ≤ W5.heap.size by have := HZ3.out; omega)
      have HB5 := Lib.hid (show W4.heap.size < W5.heap.size from x5.lt)
      clear hW5 hb5 hb35 hos5 hz5 HT3 HS3 HX43 HXN3 HM3 HZ3 HJ3 HOS HB4
      refine wpIn_rangeFunc_T rfl (by omega) (gf := 43) (lb := #[.pointer (some ⟨W4.heap.size, 0, none⟩)]) rfl trivial (enters_of Try.func43 (by kernel_rfl) rfl)
        (backS_stops _ (by omega) W4.heap.size (.slice sa sm sc) ss (by have := HSL.out; have := HSZ.out; unfold maxLen; omega) W5 x5.lt x5.cell hA5) keepN_t (keepN_b x5.lt hA5.row_lt) (Below.refl _ _) (fun _ => rfl)
        (KidI 62 60 81 82 (.int .i64 0) s more W.heap.size wr.heap.size W4.heap.size (.slice sa sm sc) ss ((pa, pn, pc), px) st0 Ds W5.heap.size (J (xs ++ [((pa, pn, pc), px)])))
        (fun _ _ _ => False)
        (kidI_own (fun W7 W8 row h1 h2 h3 => HJ.out _ W7 W8 row h1 h2 (fun r e => ⟨by have := (h3 r e).1; have := HZ5.out; omega, by obtain ⟨_, o, h5, h6⟩ := h3 r e; exact ⟨o, h5, .inl h6⟩⟩)) HZ5.out)
        (fun _ _ _ _ _ h _ _ => h.elim)
        hI0
        (fun i => { tmps := #[.func (.yield l) #[] #[], .pointer (some ⟨b1, 0, none⟩), undef, .pointer (some ⟨W.heap.size + 1, 0, none⟩), .pointer (some ⟨wr.heap.size, 0, none⟩), undef, strV ss[i], .pointer (some ⟨B, 0, none⟩), .pointer (some ⟨B, 0, none⟩), .pointer (some ⟨B, 0, none⟩), .agg #[.pointer (some ⟨B, 0, none⟩), .slice none 0 0], .slice (some ⟨W.heap.size, 0, none⟩) 1 1, .slice (some ⟨g, 0, none⟩) nn c, .int .i64 (nn : Int), .bool true, .slice (some ⟨g, 0, none⟩) nn c, .slice (some ⟨g, 0, none⟩) nn c, .int .i64 (nn : Int), .int .i64 (n : Int), .pointer (some ⟨g, n * 2, none⟩), .agg #[.pointer (some ⟨nb, 0, none⟩), .slice pa pn pc], .slice (some ⟨g, 0, none⟩) nn c, .slice (some ⟨g, 0, none⟩) nn c, .int .i64 (nn : Int), .int .i64 (n : Int), .slice (some ⟨g, 0, none⟩) n c, .func (.yield l) #[] #[], .pointer (some ⟨wr.heap.size, 1, none⟩), .slice pa pn pc, .bool true, .bool false, .pointer (some ⟨wr.heap.size, 0, none⟩), .pointer (some ⟨nb, 0, none⟩), .slice sa sm sc, .func (.func 43) #[] #[.pointer (some ⟨W4.heap.size, 0, none⟩)], .int .i64 (i.val : Int), strV ss[i], undef, undef, undef, undef, undef, undef, undef, undef, undef, undef, undef, undef, undef, undef, undef], defers := [] }) ?assign ?body ?done ?stop
      case assign =>
        intro l x W K hK
        unfold idxV
        gi_wp2
        exact hK
      case body =>
        rintro l' pre i W6 hl' ⟨rec, hrec⟩ ⟨add, a1, a2, a3, a4, a5, a6, a7, a8, a9, a10⟩ hlt
        obtain ⟨la, ln, lc, q1, q2, q3, q4⟩ := a3
        obtain ⟨l, hl⟩ : ∃ l, ss[i] = l := ⟨_, rfl⟩
        have hkin : px ++ [l] ∈ s.ks := (HKS.out.mem l).1 (hl ▸ List.getElem_mem i.isLt)
        have hll : l.length ≤ 1048576 := (HDP.out _ hkin).2 l (by simp)
        obtain ⟨K1, hK1⟩ : ∃ k, s.be (px ++ [l]) = k := ⟨_, rfl⟩
        obtain ⟨mo, hmo⟩ : ∃ m, s.mb px = m := ⟨_, rfl⟩
        obtain ⟨sv, hsv⟩ : ∃ v, strV l = v := ⟨_, rfl⟩
        have HCL : Hid (Calls Try.prog 35 #[sv, .slice pa pn pc] W6.drew (CopyPost (l :: px.reverse) W6.drew)) := Lib.hid (by
          have hnm := OwnNm.nm a5
          rw [← hsv]
          exact name_Child ⟨l.toArray⟩ (.slice pa pn pc) px.reverse W6.drew (StrsAt.below hnm.1 (Below.refl _ W6).drew) hnm.2 ⟨by rw [List.length_reverse]; exact (HDP.out _ HXK.out).1, fun y hy => (HDP.out _ HXK.out).2 y (by simpa using hy)⟩)
        have KF := Lib.hid (fun (X : World) (h : X.heap[wr.heap.size]? = some (.cells #[.pointer (some ⟨nb, 0, none⟩), .slice pa pn pc] 81) ∧ TrM 62 60 (.int .i64 0) X s more ∧ ∃ u : Value, X.heap[W.heap.size + 1]? = some (.cells #[u] 82)) => (by
          have hn := h.2.1.node px HXK.out
          have hlk := h.2.1.look HXK.out l (by unfold maxLen; omega) Try.underlying58 zeroPtr_i
          unfold kidV at hlk
          rw [if_pos hkin, hK1, hmo, hsv] at hlk
          have hn' : X.heap[nb]? = _ := HNB.out ▸ hn
          have hc := kcell hn' 0 _ (cellsT_map _ _ _ _)
          rw [hmo] at hc
          exact ⟨kcell h.1 0 _ rfl, kcell h.1 1 _ rfl, hc, hlk⟩ :
          X.cell? ⟨wr.heap.size, 0, none⟩ = some (.pointer (some ⟨nb, 0, none⟩)) ∧ X.cell? ⟨wr.heap.size, 1, none⟩ = some (.slice pa pn pc) ∧ X.cell? ⟨nb, 0, none⟩ = some (.map mo) ∧ (Instr.lookup 58 (.map mo) sv false).run Try.prog X = .ok (.pointer (some ⟨K1, 0, none⟩)) X))
        have a4' : W6.heap[wr.heap.size]? = some (.cells #[.pointer (some ⟨nb, 0, none⟩), .slice pa pn pc] 81) := by rw [← HNB.out]; exact a4
        have hS0 : W6.drew.heap[wr.heap.size]? = some (.cells #[.pointer (some ⟨nb, 0, none⟩), .slice pa pn pc] 81) ∧ TrM 62 60 (.int .i64 0) W6.drew s more ∧ ∃ u : Value, W6.drew.heap[W.heap.size + 1]? = some (.cells #[u] 82) := ⟨a4', a2.move (fun k _ => rfl), _, q1⟩
        have KS := Lib.hid (fun (w7 : World) (hb : Below W6.drew.heap.size W6.drew w7) => (⟨(hb.block _ (kblock_lt hS0.1)).trans hS0.1, hS0.2.1.below hb, _, (hb.block (W.heap.size + 1) (kblock_lt q1)).trans q1⟩ : w7.heap[wr.heap.size]? = some (.cells #[.pointer (some ⟨nb, 0, none⟩), .slice pa pn pc] 81) ∧ TrM 62 60 (.int .i64 0) w7 s more ∧ ∃ u : Value, w7.heap[W.heap.size + 1]? = some (.cells #[u] 82)))
        have KA := Lib.hid (fun (X : World) (ob : Obj) (h : X.heap[wr.heap.size]? = some (.cells #[.pointer (some ⟨nb, 0, none⟩), .slice pa pn pc] 81) ∧ TrM 62 60 (.int .i64 0) X s more ∧ ∃ u : Value, X.heap[W.heap.size + 1]? = some (.cells #[u] 82)) => (⟨(Below.heap_alloc X ob _ (kblock_lt h.1)).trans h.1, h.2.1.below ((Below.refl _ X).alloc (Nat.le_refl _) ob), h.2.2.imp (fun u hu => (Below.heap_alloc X ob _ (kblock_lt hu)).trans hu)⟩ : (X.alloc ob).heap[wr.heap.size]? = some (.cells #[.pointer (some ⟨nb, 0, none⟩), .slice pa pn pc] 81) ∧ TrM 62 60 (.int .i64 0) (X.alloc ob) s more ∧ ∃ u : Value, (X.alloc ob).heap[W.heap.size + 1]? = some (.cells #[u] 82)))
        have hb43 : wr.heap.size ≠ W.heap.size + 1 := fun e => by rw [e] at a4'; rw [q1] at a4'; injection a4' with a4'; injection a4' with _ e _; revert e; decide
        have KP := Lib.hid (fun (X : World) (u : Value) (h : X.heap[wr.heap.size]? = some (.cells #[.pointer (some ⟨nb, 0, none⟩), .slice pa pn pc] 81) ∧ TrM 62 60 (.int .i64 0) X s more ∧ ∃ u : Value, X.heap[W.heap.size + 1]? = some (.cells #[u] 82)) => (by
          obtain ⟨k1, k2, v, k3⟩ := h
          exact ⟨(Below.heap_setCell X ⟨W.heap.size + 1, 0, none⟩ u _ hb43).trans k1, k2.grown (grownBy_setCell' X (W.heap.size + 1) u) (fun k e => by cases e; exact k2.not_foot k3 (boxNot (by decide) (by decide))), u, kset k3 0 u⟩ :
          (X.setCell ⟨W.heap.size + 1, 0, none⟩ u).heap[wr.heap.size]? = some (.cells #[.pointer (some ⟨nb, 0, none⟩), .slice pa pn pc] 81) ∧ TrM 62 60 (.int .i64 0) (X.setCell ⟨W.heap.size + 1, 0, none⟩ u) s more ∧ ∃ v : Value, (X.setCell ⟨W.heap.size + 1, 0, none⟩ u).heap[W.heap.size + 1]? = some (.cells #[v] 82)))
        have KL := Lib.hid (fun (w7 : World) (hb : Below W6.drew.heap.size W6.drew w7) (ob : Obj) => (by
          have h7 := (hb.block (W.heap.size + 1) (kblock_lt q1)).trans q1
          exact ⟨kcell h7 0 _ rfl, kcell ((Below.heap_alloc w7 ob _ (kblock_lt h7)).trans h7) 0 _ rfl⟩ : w7.cell? ⟨W.heap.size + 1, 0, none⟩ = some (.slice la ln lc) ∧ (w7.alloc ob).cell? ⟨W.heap.size + 1, 0, none⟩ = some (.slice la ln lc)))
        have KO := Lib.hid (fun (w7 : World) (hb : Below W6.drew.heap.size W6.drew w7) (ob : Obj) => (⟨(OwnK.below (OwnK.below q2 (Below.refl _ W6).drew) hb).alloc ob, Nat.le_trans (show W.heap.size ≤ W6.drew.heap.size by show W.heap.size ≤ W6.heap.size; omega) hb.size⟩ : OwnK 2 81 (plE s.be) (w7.alloc ob) W.heap.size (.slice la ln lc) (st0 ++ add) ∧ W.heap.size ≤ w7.heap.size))
        have HST : Hid ((st0 ++ add).length ≤ 1099511627776) := Lib.hid (by
          have h1 := congrArg List.length a1
          rw [List.length_map, List.length_map] at h1
          have h2 := remT_len st0 (fun y hy => (q3 y (by simp [hy])).1)
          have h3 := congrArg List.length HR2.out
          rw [srtT_len, List.length_append, List.length_append] at h3
          rw [List.length_append]
          have := HSL.out; have := HSZ.out; omega)
        have PLX := Lib.hid (fun (ya : Option Addr) (yn yc : Nat) => (by unfold plE hdV; rw [hK1] : plE s.be ((ya, yn, yc), px ++ [l]) = [.pointer (some ⟨K1, 0, none⟩), .slice ya yn yc]))
        have FIN := Lib.hid (fun (w7 w8 : World) (ya : Option Addr) (yn yc g8 n8 c8 : Nat) (hb7 : Below W6.drew.heap.size W6.drew w7) (hn7 : OwnG 9 strV w7 W6.drew.heap.size (.slice ya yn yc) (l :: px.reverse))
          (ho8 : OwnK 2 81 (plE s.be) w8 W.heap.size (.slice (some ⟨g8, 0, none⟩) n8 c8) ((st0 ++ add) ++ [((ya, yn, yc), px ++ [l])])) (hg8 : (w7.alloc (.cells #[.pointer (some ⟨K1, 0, none⟩), .slice ya yn yc] 81)).grownBy w8 (Value.slice la ln lc).ownBlock) (hl8 : (Value.slice la ln lc).ownBlock = some g8 ∨ g8 = w7.heap.size + 1) => (by
          have h := KidI.push (J := J (xs ++ [((pa, pn, pc), px)])) (by decide) hl hkin hK1 (fun W7 W8 row h1 h2 h3 => HJ.out _ W7 W8 row h1 h2 (fun r e => ⟨(h3 r e).1, by obtain ⟨_, cs, t, h5, h6⟩ := h3 r e; exact ⟨_, h5, .inr ⟨cs, t, rfl, h6⟩⟩⟩)) a1 a2 q1 q2 q3 (q4 _ rfl) a4 a5 a6 a7 a8 a9 a10 hb7 hn7 ho8 hg8 hl8
          obtain ⟨h1, h2, h3, h4⟩ := h
          exact ⟨h1, h2, HNB.out ▸ h3, h4, _, h2⟩ : _ ∧ w8.heap[W.heap.size + 1]? = some (.cells #[.slice la ln lc] 82) ∧ w8.heap[wr.heap.size]? = some (.cells #[.pointer (some ⟨nb, 0, none⟩), .slice pa pn pc] 81) ∧ TrM 62 60 (.int .i64 0) w8 s more ∧ ∃ u : Value, w8.heap[W.heap.size + 1]? = some (.cells #[u] 82)))
        have c0 := kcell q1 0 (.slice la ln lc) rfl
        rw [hl, hsv]
        clear a1 a2 q1 q2 q3 q4 a4 a5 a6 a7 a8 a9 a10 a4' hrec hkin hll hlt hb43 hl hK1 hmo hsv
        gi_wp2
        refine wpIn_region_round (S := fun X => X.heap[wr.heap.size]? = some (.cells #[.pointer (some ⟨nb, 0, none⟩), .slice pa pn pc] 81) ∧ TrM 62 60 (.int .i64 0) X s more ∧ ∃ u : Value, X.heap[W.heap.size + 1]? = some (.cells #[u] 82)) (by kernel_rfl) (by rfl) hS0 (fun hHeld => ?_)
        clear hS0
        refine wpAnyH_take (i := 1) (v := .pointer (some ⟨wr.heap.size, 0, none⟩)) rfl (by kernel_rfl) (by kernel_rfl) (by kernel_rfl) (fun _ _ _ h => h) (Or.inl ⟨by rfl, ?_⟩) (by assumption) ?_
        · (intro wS hSw; obtain ⟨z0, z1, z2, z3⟩ := KF.out wS hSw; clear hSw; go_simp)
        try simp only [Act.put, List.setIfInBounds_toArray, List.set_cons_zero, List.set_cons_succ]
        refine wpAnyH_take (i := 2) (v := .pointer (some ⟨nb, 0, none⟩)) rfl (by kernel_rfl) (by kernel_rfl) (by kernel_rfl) (fun _ _ _ h => h) (Or.inl ⟨by rfl, ?_⟩) (by assumption) ?_
        · (intro wS hSw; obtain ⟨z0, z1, z2, z3⟩ := KF.out wS hSw; clear hSw; go_simp)
        try simp only [Act.put, List.setIfInBounds_toArray, List.set_cons_zero, List.set_cons_succ]
        refine wpAnyH_take (i := 3) (v := .pointer (some ⟨nb, 0, none⟩)) rfl (by kernel_rfl) (by kernel_rfl) (by kernel_rfl) (fun _ _ _ h => h) (Or.inl ⟨by rfl, ?_⟩) (by assumption) ?_
        · (intro wS hSw; obtain ⟨z0, z1, z2, z3⟩ := KF.out wS hSw; clear hSw; go_simp)
        try simp only [Act.put, List.setIfInBounds_toArray, List.set_cons_zero, List.set_cons_succ]
        refine wpAnyH_take (i := 4) (v := .pointer (some ⟨nb, 0, none⟩)) rfl (by kernel_rfl) (by kernel_rfl) (by kernel_rfl) (fun _ _ _ h => h) (Or.inl ⟨by rfl, ?_⟩) (by assumption) ?_
        · (intro wS hSw; obtain ⟨z0, z1, z2, z3⟩ := KF.out wS hSw; clear hSw; go_simp)
        try simp only [Act.put, List.setIfInBounds_toArray, List.set_cons_zero, List.set_cons_succ]
        refine wpAnyH_take (i := 5) (v := .map mo) rfl (by kernel_rfl) (by kernel_rfl) (by kernel_rfl) (fun _ _ _ h => h) (Or.inl ⟨by rfl, ?_⟩) (by assumption) ?_
        · (intro wS hSw; obtain ⟨z0, z1, z2, z3⟩ := KF.out wS hSw; clear hSw; go_simp)
        try simp only [Act.put, List.setIfInBounds_toArray, List.set_cons_zero, List.set_cons_succ]
        refine wpAnyH_take (i := 6) (v := sv) rfl (by kernel_rfl) (by kernel_rfl) (by kernel_rfl) (fun _ _ _ h => h) (Or.inl ⟨by rfl, ?_⟩) (by assumption) ?_
        · (intro wS hSw; obtain ⟨z0, z1, z2, z3⟩ := KF.out wS hSw; clear hSw; go_simp)
        try simp only [Act.put, List.setIfInBounds_toArray, List.set_cons_zero, List.set_cons_succ]
        refine wpAnyH_take (i := 7) (v := .pointer (some ⟨K1, 0, none⟩)) rfl (by kernel_rfl) (by kernel_rfl) (by kernel_rfl) (fun _ _ _ h => h) (Or.inl ⟨by rfl, ?_⟩) (by assumption) ?_
        · (intro wS hSw; obtain ⟨z0, z1, z2, z3⟩ := KF.out wS hSw; clear hSw; go_simp)
        try simp only [Act.put, List.setIfInBounds_toArray, List.set_cons_zero, List.set_cons_succ]
        refine wpAnyH_take (i := 8) (v := sv) rfl (by kernel_rfl) (by kernel_rfl) (by kernel_rfl) (fun _ _ _ h => h) (Or.inl ⟨by rfl, ?_⟩) (by assumption) ?_
        · (intro wS hSw; obtain ⟨z0, z1, z2, z3⟩ := KF.out wS hSw; clear hSw; go_simp)
        try simp only [Act.put, List.setIfInBounds_toArray, List.set_cons_zero, List.set_cons_succ]
        refine wpAnyH_take (i := 9) (v := .pointer (some ⟨wr.heap.size, 1, none⟩)) rfl (by kernel_rfl) (by kernel_rfl) (by kernel_rfl) (fun _ _ _ h => h) (Or.inl ⟨by rfl, ?_⟩) (by assumption) ?_
        · (intro wS hSw; obtain ⟨z0, z1, z2, z3⟩ := KF.out wS hSw; clear hSw; go_simp)
        try simp only [Act.put, List.setIfInBounds_toArray, List.set_cons_zero, List.set_cons_succ]
        refine wpAnyH_take (i := 10) (v := .slice pa pn pc) rfl (by kernel_rfl) (by kernel_rfl) (by kernel_rfl) (fun _ _ _ h => h) (Or.inl ⟨by rfl, ?_⟩) (by assumption) ?_
        · (intro wS hSw; obtain ⟨z0, z1, z2, z3⟩ := KF.out wS hSw; clear hSw; go_simp)
        try simp only [Act.put, List.setIfInBounds_toArray, List.set_cons_zero, List.set_cons_succ]
        refine wpAnyH_ready (rs := [0, 11]) (by kernel_rfl) (by simp) ?_
        refine AllReadyH.cons rfl (fun K hK => ?_) ?_
        · go_simp
          refine hK.out _ _ ?_ (fun hHeld => ?_)
          · (first | with_reducible assumption | exact KA.out _ _ (by with_reducible assumption) | exact KP.out _ _ (by with_reducible assumption))
          clear hK K
          try simp only [Act.put, List.setIfInBounds_toArray, List.set_cons_zero, List.set_cons_succ]
          refine wpAnyH_ready (rs := [11]) (by kernel_rfl) (by simp) ?_
          refine AllReadyH.cons rfl (fun K hK => ?_) ?_
          · go_simp
            refine (HCL.out).mono ?_
            rintro e w7 ⟨vy, rfl, hn7, hb7⟩
            obtain ⟨ya, yc, rfl⟩ := hn7.shape
            generalize hyn : List.length _ = yn at hn7 ⊢
            clear hyn
            have hS7 := KS.out w7 hb7
            obtain ⟨c7, c7A⟩ := KL.out w7 hb7 (.cells #[.pointer (some ⟨K1, 0, none⟩), .slice ya yn yc] 81)
            have hSA := KA.out w7 (.cells #[.pointer (some ⟨K1, 0, none⟩), .slice ya yn yc] 81) hS7
            have HN7 := Lib.hid hn7; have HB7 := Lib.hid hb7
            clear hn7 hb7
            refine hK.out _ _ ?_ (fun hHeld => ?_)
            · (first | with_reducible assumption | exact KA.out _ _ (by with_reducible assumption) | exact KP.out _ _ (by with_reducible assumption))
            clear hK K
            try simp only [Act.put, List.setIfInBounds_toArray, List.set_cons_zero, List.set_cons_succ]
            refine wpAnyH_take (i := 12) (v := .agg #[.pointer (some ⟨K1, 0, none⟩), .slice ya yn yc]) rfl (by kernel_rfl) (by kernel_rfl) (by kernel_rfl) (fun _ _ _ h => h) (Or.inl ⟨by rfl, ?_⟩) (by assumption) ?_
            · (intro wS hSw; obtain ⟨z0, z1, z2, z3⟩ := KF.out wS hSw; clear hSw; go_simp)
            try simp only [Act.put, List.setIfInBounds_toArray, List.set_cons_zero, List.set_cons_succ]
            refine wpAnyH_ready (rs := [13]) (by kernel_rfl) (by simp) ?_
            refine AllReadyH.cons rfl (fun K hK => ?_) ?_
            · go_simp
              refine hK.out _ _ ?_ (fun hHeld => ?_)
              · (first | with_reducible assumption | exact KA.out _ _ (by with_reducible assumption) | exact KP.out _ _ (by with_reducible assumption))
              clear hK K
              try simp only [Act.put, List.setIfInBounds_toArray, List.set_cons_zero, List.set_cons_succ]
              refine wpAnyH_ready (rs := [14]) (by kernel_rfl) (by simp) ?_
              refine AllReadyH.cons rfl (fun K hK => ?_) ?_
              · obtain ⟨ho7, hsz7⟩ := KO.out w7 HB7.out (.cells #[.pointer (some ⟨K1, 0, none⟩), .slice ya yn yc] 81)
                refine step_append_pl_i (plE s.be) w7 ((ya, yn, yc), px ++ [l]) K1 ya yn yc W.heap.size la ln lc (st0 ++ add) (PLX.out ya yn yc) ho7 hsz7 HST.out rfl _ _ rfl rfl rfl ?_
                intro g8 n8 c8 w8 ho8 hg8 hl8
                have hfin := FIN.out w7 w8 ya yn yc g8 n8 c8 HB7.out HN7.out ho8 hg8 hl8
                have c8' := kcell hfin.2.1 0 (.slice la ln lc) rfl
                have f8 := kfrozen hfin.2.1 0
                have hS8 := hfin.2.2
                have HFIN := Lib.hid hfin.1
                clear hfin ho8 hg8 hl8 ho7 hsz7
                refine hK.out _ _ ?_ (fun hHeld => ?_)
                · (first | with_reducible assumption | exact KA.out _ _ (by with_reducible assumption) | exact KP.out _ _ (by with_reducible assumption))
                clear hK K
                try simp only [Act.put, List.setIfInBounds_toArray, List.set_cons_zero, List.set_cons_succ]
                refine wpAnyH_ready (rs := [15]) (by kernel_rfl) (by simp) ?_
                refine AllReadyH.cons rfl (fun K hK => ?_) ?_
                · go_simp
                  refine hK.out _ _ ?_ (fun hHeld => ?_)
                  · (first | with_reducible assumption | exact KA.out _ _ (by with_reducible assumption) | exact KP.out _ _ (by with_reducible assumption))
                  clear hK K
                  try simp only [Act.put, List.setIfInBounds_toArray, List.set_cons_zero, List.set_cons_succ]
                  refine wpAnyH_done (by kernel_rfl) ?_ _
                  exact HFIN.out
                exact AllReadyH.nil
              exact AllReadyH.nil
            exact AllReadyH.nil
          exact AllReadyH.nil
        refine AllReadyH.cons rfl (fun K hK => ?_) ?_
        · go_simp
          refine (HCL.out).mono ?_
          rintro e w7 ⟨vy, rfl, hn7, hb7⟩
          obtain ⟨ya, yc, rfl⟩ := hn7.shape
          generalize hyn : List.length _ = yn at hn7 ⊢
          clear hyn
          have hS7 := KS.out w7 hb7
          obtain ⟨c7, c7A⟩ := KL.out w7 hb7 (.cells #[.pointer (some ⟨K1, 0, none⟩), .slice ya yn yc] 81)
          have hSA := KA.out w7 (.cells #[.pointer (some ⟨K1, 0, none⟩), .slice ya yn yc] 81) hS7
          have HN7 := Lib.hid hn7; have HB7 := Lib.hid hb7
          clear hn7 hb7
          refine hK.out _ _ ?_ (fun hHeld => ?_)
          · (first | with_reducible assumption | exact KA.out _ _ (by with_reducible assumption) | exact KP.out _ _ (by with_reducible assumption))
          clear hK K
          try simp only [Act.put, List.setIfInBounds_toArray, List.set_cons_zero, List.set_cons_succ]
          refine wpAnyH_take (i := 12) (v := .agg #[.pointer (some ⟨K1, 0, none⟩), .slice ya yn yc]) rfl (by kernel_rfl) (by kernel_rfl) (by kernel_rfl) (fun _ _ _ h => h) (Or.inl ⟨by rfl, ?_⟩) (by assumption) ?_
          · (intro wS hSw; obtain ⟨z0, z1, z2, z3⟩ := KF.out wS hSw; clear hSw; go_simp)
          try simp only [Act.put, List.setIfInBounds_toArray, List.set_cons_zero, List.set_cons_succ]
          refine wpAnyH_ready (rs := [0, 13]) (by kernel_rfl) (by simp) ?_
          refine AllReadyH.cons rfl (fun K hK => ?_) ?_
          · go_simp
            refine hK.out _ _ ?_ (fun hHeld => ?_)
            · (first | with_reducible assumption | exact KA.out _ _ (by with_reducible assumption) | exact KP.out _ _ (by with_reducible assumption))
            clear hK K
            try simp only [Act.put, List.setIfInBounds_toArray, List.set_cons_zero, List.set_cons_succ]
            refine wpAnyH_ready (rs := [13]) (by kernel_rfl) (by simp) ?_
            refine AllReadyH.cons rfl (fun K hK => ?_) ?_
            · go_simp
              refine hK.out _ _ ?_ (fun hHeld => ?_)
              · (first | with_reducible assumption | exact KA.out _ _ (by with_reducible assumption) | exact KP.out _ _ (by with_reducible assumption))
              clear hK K
              try simp only [Act.put, List.setIfInBounds_toArray, List.set_cons_zero, List.set_cons_succ]
              refine wpAnyH_ready (rs := [14]) (by kernel_rfl) (by simp) ?_
              refine AllReadyH.cons rfl (fun K hK => ?_) ?_
              · obtain ⟨ho7, hsz7⟩ := KO.out w7 HB7.out (.cells #[.pointer (some ⟨K1, 0, none⟩), .slice ya yn yc] 81)
                refine step_append_pl_i (plE s.be) w7 ((ya, yn, yc), px ++ [l]) K1 ya yn yc W.heap.size la ln lc (st0 ++ add) (PLX.out ya yn yc) ho7 hsz7 HST.out rfl _ _ rfl rfl rfl ?_
                intro g8 n8 c8 w8 ho8 hg8 hl8
                have hfin := FIN.out w7 w8 ya yn yc g8 n8 c8 HB7.out HN7.out ho8 hg8 hl8
                have c8' := kcell hfin.2.1 0 (.slice la ln lc) rfl
                have f8 := kfrozen hfin.2.1 0
                have hS8 := hfin.2.2
                have HFIN := Lib.hid hfin.1
                clear hfin ho8 hg8 hl8 ho7 hsz7
                refine hK.out _ _ ?_ (fun hHeld => ?_)
                · (first | with_reducible assumption | exact KA.out _ _ (by with_reducible assumption) | exact KP.out _ _ (by with_reducible assumption))
                clear hK K
                try simp only [Act.put, List.setIfInBounds_toArray, List.set_cons_zero, List.set_cons_succ]
                refine wpAnyH_ready (rs := [15]) (by kernel_rfl) (by simp) ?_
                refine AllReadyH.cons rfl (fun K hK => ?_) ?_
                · go_simp
                  refine hK.out _ _ ?_ (fun hHeld => ?_)
                  · (first | with_reducible assumption | exact KA.out _ _ (by with_reducible assumption) | exact KP.out _ _ (by with_reducible assumption))
                  clear hK K
                  try simp only [Act.put, List.setIfInBounds_toArray, List.set_cons_zero, List.set_cons_succ]
                  refine wpAnyH_done (by kernel_rfl) ?_ _
                  exact HFIN.out
                exact AllReadyH.nil
              exact AllReadyH.nil
            exact AllReadyH.nil
          refine AllReadyH.cons rfl (fun K hK => ?_) ?_
          · go_simp
            refine hK.out _ _ ?_ (fun hHeld => ?_)
            · (first | with_reducible assumption | exact KA.out _ _ (by with_reducible assumption) | exact KP.out _ _ (by with_reducible assumption))
            clear hK K
            try simp only [Act.put, List.setIfInBounds_toArray, List.set_cons_zero, List.set_cons_succ]
            refine wpAnyH_ready (rs := [0]) (by kernel_rfl) (by simp) ?_
            refine AllReadyH.cons rfl (fun K hK => ?_) ?_
            · go_simp
              refine hK.out _ _ ?_ (fun hHeld => ?_)
              · (first | with_reducible assumption | exact KA.out _ _ (by with_reducible assumption) | exact KP.out _ _ (by with_reducible assumption))
              clear hK K
              try simp only [Act.put, List.setIfInBounds_toArray, List.set_cons_zero, List.set_cons_succ]
              refine wpAnyH_ready (rs := [14]) (by kernel_rfl) (by simp) ?_
              refine AllReadyH.cons rfl (fun K hK => ?_) ?_
              · obtain ⟨ho7, hsz7⟩ := KO.out w7 HB7.out (.cells #[.pointer (some ⟨K1, 0, none⟩), .slice ya yn yc] 81)
                refine step_append_pl_i (plE s.be) w7 ((ya, yn, yc), px ++ [l]) K1 ya yn yc W.heap.size la ln lc (st0 ++ add) (PLX.out ya yn yc) ho7 hsz7 HST.out rfl _ _ rfl rfl rfl ?_
                intro g8 n8 c8 w8 ho8 hg8 hl8
                have hfin := FIN.out w7 w8 ya yn yc g8 n8 c8 HB7.out HN7.out ho8 hg8 hl8
                have c8' := kcell hfin.2.1 0 (.slice la ln lc) rfl
                have f8 := kfrozen hfin.2.1 0
                have hS8 := hfin.2.2
                have HFIN := Lib.hid hfin.1
                clear hfin ho8 hg8 hl8 ho7 hsz7
                refine hK.out _ _ ?_ (fun hHeld => ?_)
                · (first | with_reducible assumption | exact KA.out _ _ (by with_reducible assumption) | exact KP.out _ _ (by with_reducible assumption))
                clear hK K
                try simp only [Act.put, List.setIfInBounds_toArray, List.set_cons_zero, List.set_cons_succ]
                refine wpAnyH_ready (rs := [15]) (by kernel_rfl) (by simp) ?_
                refine AllReadyH.cons rfl (fun K hK => ?_) ?_
                · go_simp
                  refine hK.out _ _ ?_ (fun hHeld => ?_)
                  · (first | with_reducible assumption | exact KA.out _ _ (by with_reducible assumption) | exact KP.out _ _ (by with_reducible assumption))
                  clear hK K
                  try simp only [Act.put, List.setIfInBounds_toArray, List.set_cons_zero, List.set_cons_succ]
                  refine wpAnyH_done (by kernel_rfl) ?_ _
                  exact HFIN.out
                exact AllReadyH.nil
              exact AllReadyH.nil
            exact AllReadyH.nil
          exact AllReadyH.nil
        exact AllReadyH.nil
      case done =>
        rintro D ys W6 hD rfl ⟨add, a1, a2, a3, a4, a5, a6, a7, a8, a9, a10⟩ hKD
        have hrise : srtT s.ks = (xs ++ [((pa, pn, pc), px)]).map (·.2) ++ remT s.ks (st0 ++ add) := by
          rw [HR2.out, subT_cons HT.out.ok HXK.out HKS.out, remT_kids (p := px) (ls := ss) (by rw [a1, List.map_reverse, List.map_reverse]; congr 1; apply List.ext_getElem (by simp); intro j h1 h2; simp)]
          simp
        have HA6 : Hid (AllS 62 60 81 82 (.int .i64 0) s more W.heap.size J (xs ++ [((pa, pn, pc), px)]) (st0 ++ add) W6) := Lib.hid ⟨a2, a3.free, hrise, a6, a10⟩
        have HM6 : Hid (MarksT (W.heap.size + 2) (D :: Ds) W6) := Lib.hid (a7.1.cons (by have := HZ5.out; omega) (fun h => by have := a7.2 D h; omega) hKD)
        clear a1 a2 a3 a4 a5 a6 a7 a8 a9 a10 hrise hKD
        go_wp2
        refine ⟨s.ks.length + 1 - (xs ++ [((pa, pn, pc), px)]).length, by rw [List.length_append, List.length_singleton, HGK.out]; have := HLT.out; omega, ?_⟩
        exact ⟨_, _, _, _, _, _, _, _, _, _, _, _, _, _, _, _, _, _, _, _, _, _, _, _, xs ++ [((pa, pn, pc), px)], st0 ++ add, D :: Ds, ⟨rfl, HA6, HM6⟩, rfl⟩
      case stop =>
        rintro D c2 pre W hD hp h _
        exact h.elim
    · have hM3 := HM2.out.keepsT ht3 (by omega)
      have hpre : (xs ++ [((pa, pn, pc), px)]).map (·.2) <+: srtT s.ks := by
        obtain ⟨r, hr⟩ := subT_pre HXK.out (h := HT.out.ok)
        rw [HR2.out, hr]
        exact ⟨r ++ remT s.ks st0, by simp⟩
      have HPR := Lib.hid hpre; have HM3 := Lib.hid hM3; have HJX3 := Lib.hid hJx3
      clear hM3 hpre hJx3 ht3
      gi_wp2
      go_wp2
      refine leaves_marksT (I := Jx (xs ++ [((pa, pn, pc), px)])) (fun W5 D h1 h2 h3 => HJX.out.putObj _ h1 (by omega) h3 (.inl ⟨rfl, rfl⟩)) Ds W3 HM3.out HJX3.out (fun W5 h5 => ⟨_, results_none rfl _ _ _, ⟨_, rfl⟩, .inr ⟨_, HPR.out, h5⟩⟩)
end
end Go.Proofs.Ytbnkecmhmcligaa

