/-
  Rows of k cells: literals, pieces, a store into one cell, appends in a drawn region.
-/
import Derived.Test.YtckammgnmgkieaaGreatMQ32
import Derived.Deep.RegionLaw
import Derived.RangeFuncNested
import Derived.Test.YtckammgnmgkieaaGreatMQ12
import Derived.ProofKit
import Derived.OpenShut
import Derived.ShutString
import Derived.ChangeArms
import Derived.ChangeSlices
import Derived.SliceStrings
import Derived.Deep.Slices
import Derived.Shelf.Vars
import Derived.Handed
import Derived.HandedShaped
namespace Go.Proofs.YtckammgnmgkieaaGreat
set_option maxRecDepth 20000
open Go.RowKit Go.Shelf
set_option maxRecDepth 20000
set_option linter.unusedVariables false
set_option linter.unusedSimpArgs false

theorem slAt_blk {W : World} {g : Nat} {l : List Value} {T : TypeId} (h : W.heap[g]? = some (.cells l.toArray T)) : SlAt W (.slice (some ⟨g, 0, none⟩) l.length l.length) l := by
  refine ⟨_, _, rfl, Nat.le_refl _, (fun e => by cases e), .inr ⟨g, 0, rfl, kblock_lt h, fun j hj => ?_⟩⟩
  have := kcell h j l[j] (by simp)
  rw [Nat.zero_add]; exact this
theorem slK_blk {W : World} {g : Nat} {css : List (List Value)} {T : TypeId} (h : W.heap[g]? = some (.cells css.flatten.toArray T)) : SlK W (.slice (some ⟨g, 0, none⟩) css.length css.length) css := by
  refine ⟨_, _, rfl, Nat.le_refl _, (fun e => by cases e), .inr ⟨g, 0, rfl, kblock_lt h, fun j u hj => ?_⟩⟩
  have := kcell h j u (by simpa using hj)
  rw [Nat.zero_add]; exact this
theorem flatten_set (K t : Nat) (u : Value) (ht : t < K) : ∀ (css : List (List Value)), (∀ cs ∈ css, cs.length = K) → ∀ (k : Nat) (h : k < css.length), (css.set k (css[k].set t u)).flatten = css.flatten.set (k * K + t) u
  | [], _, k, h => by simp at h
  | c :: r, hk, 0, _ => by
    have hc := hk c (by simp)
    simp only [List.getElem_cons_zero, List.set_cons_zero, List.flatten_cons, Nat.zero_mul, Nat.zero_add]
    rw [List.set_append_left t u (by omega)]
  | c :: r, hk, k + 1, h => by
    have hc := hk c (by simp)
    have ih := flatten_set K t u ht r (fun cs hcs => hk cs (by simp [hcs])) k (by simpa using h)
    simp only [List.getElem_cons_succ, List.set_cons_succ, List.flatten_cons]
    rw [ih, Nat.add_mul, Nat.one_mul]
    rw [List.set_append_right ((k * K + K + t)) u (by omega)]
    congr 2
    omega
theorem OwnC.put {T : TypeId} {W : World} {base g n c : Nat} {css : List (List Value)} (h : OwnC 7 T W base (.slice (some ⟨g, 0, none⟩) n c) css) (hk : ∀ cs ∈ css, cs.length = 7) (k : Nat) (hlt : k < css.length) (t : Nat) (ht : t < 7) (u : Value) :
    OwnC 7 T (W.setCell ⟨g, k * 7 + t, none⟩ u) base (.slice (some ⟨g, 0, none⟩) n c) (css.set k (css[k].set t u)) := by
  obtain ⟨hl, h⟩ := h
  rcases h with ⟨e, _⟩ | ⟨g', cap, cur, e, hb, hg, hc, hm, hsz, htk⟩
  · cases e
  · cases e
    have hfl : ((css.set k (css[k].set t u)).flatMap fun cs => cs) = (css.flatMap fun cs => cs).set (k * 7 + t) u := by
      rw [flat_id, flat_id, flatten_set 7 t u ht css hk k hlt]
    refine ⟨by rw [hfl, List.length_set, List.length_set]; exact hl, .inr ⟨g, c, cur.setIfInBounds (k * 7 + t) u, by rw [List.length_set], hb, kset hg _ u, by rw [List.length_set]; exact hc, hm, by simpa using hsz, ?_⟩⟩
    rw [hfl, List.length_set, ← htk, Array.toList_setIfInBounds]
    rw [List.take_set]
theorem SlK.takeK {W : World} {a : Option Addr} {n c : Nat} {css : List (List Value)} (h : SlK W (.slice a n c) css) (k : Nat) (hk : k ≤ n) : SlK W (.slice a k c) (css.take k) := by
  obtain ⟨a', c', e, h1, h2, h3⟩ := h
  cases e
  have hl : (css.take k).length = k := by rw [List.length_take]; omega
  refine ⟨a, c, by rw [hl], by rw [hl]; omega, h2, ?_⟩
  rcases h3 with h3 | ⟨b, off, e, hlt, hc⟩
  · left; rw [h3]; simp
  · right
    refine ⟨b, off, e, hlt, fun j u hj => hc j u ?_⟩
    have hsplit : css.flatten = (css.take k).flatten ++ (css.drop k).flatten := by rw [← List.flatten_append, List.take_append_drop]
    rw [hsplit, List.getElem?_append_left (List.getElem?_eq_some_iff.1 hj).1]
    exact hj
theorem SlK.dropK {W : World} {b off n c : Nat} {css : List (List Value)} (h : SlK W (.slice (some ⟨b, off, none⟩) n c) css) (h7 : ∀ cs ∈ css, cs.length = 7) (k : Nat) (hk : k ≤ n) : SlK W (.slice (some ⟨b, off + k * 7, none⟩) (n - k) (c - k)) (css.drop k) := by
  obtain ⟨a', c', e, h1, h2, h3⟩ := h
  cases e
  have hl : (css.drop k).length = css.length - k := List.length_drop
  refine ⟨_, _, by rw [hl], by rw [hl]; omega, (fun e => by cases e), ?_⟩
  rcases h3 with h3 | ⟨b', off', e, hlt, hc⟩
  · left; rw [h3]; simp
  · cases e
    right
    refine ⟨b, off + k * 7, rfl, hlt, fun j u hj => ?_⟩
    rw [Nat.add_assoc]
    refine hc _ _ ?_
    have hsplit : css.flatten = (css.take k).flatten ++ (css.drop k).flatten := by rw [← List.flatten_append, List.take_append_drop]
    have hz : (css.take k).flatten.length = k * 7 := by
      rw [flat_len _ (fun cs hcs => h7 cs (List.mem_of_mem_take hcs)), List.length_take]; congr 1; omega
    rw [hsplit, List.getElem?_append_right (by omega), hz, Nat.add_sub_cancel_left]
    exact hj
theorem wp_append_slk {S T : TypeId} {k bytes : Nat} {o : Oper} {a : Act} {K : Act → World → Prop} {Q : Exit → Act → World → Prop} (W : World) (s x : Operand) (hE : ElemK k T S bytes) (hk0 : 0 < k)
    (ho : o.op = .call { callee := .builtin .append, args := #[s, x], argTypes := #[S, S] })
    (base : Nat) (v : Value) (xs : List (List Value)) (hs : a.eval s = v) (hown : OwnC k T W base v xs)
    (src : Value) (ys : List (List Value)) (hx : a.eval x = src) (hsrc : SlK W src ys) (hyk : ∀ cs ∈ ys, cs.length = k) (hy1 : ∀ cs ∈ ys, ∀ u ∈ cs, u.oneCell' = true)
    (hbase : base ≤ W.heap.size) (hk : xs.length + ys.length ≤ maxLen) (hk2 : (xs.length + ys.length) * bytes ≤ 140737488355328)
    (h : ∀ v' w', OwnC k T w' base v' (xs ++ ys) → W.grownBy w' v.ownBlock → K (a.put o.dst v') w') :
    o.wp Tryz.prog a W K Q := by
  obtain ⟨ht, i, z, hi, hz, hz1, hz2, hzc⟩ := hE
  obtain ⟨a0, c0, rfl, h1, h2, h3⟩ := hsrc
  have hlen := flat_len ys hyk
  cases a0 with
  | none =>
    have e3 := h2 rfl
    subst e3
    have e4 : ys = [] := List.eq_nil_of_length_eq_zero (by omega)
    subst e4
    have hrun := run_append_owned_none (P := Tryz.prog) (w := W) base S o.type _ i k ht hi v _ _ hown
    have hK := h v W (by rw [List.append_nil]; exact hown) ⟨rfl, rfl, rfl, Nat.le_refl _, fun _ _ _ => rfl⟩
    unfold Oper.wp
    simp [execOp, ho, resolve, invoke, builtin, hs, hx, hrun, Result.andThen]
    exact hK
  | some ad =>
    have hcell : ∀ j u, ys.flatten[j]? = some u → W.cell? (ad.add j) = some u := by
      intro j u hj
      rcases h3 with h3 | ⟨b, off, ea, _, hc⟩
      · subst h3; simp at hj
      · cases ea; rw [Addr.add_lit]; exact hc j u hj
    refine wp_append_own W s x S ho base _ i z k bytes ht hi hz hz1 hz2 hzc hk0 v xs.length (xs.flatMap fun cs => cs) hs hown ad ys.length c0 ys.flatten hx hlen hcell (by intro u hu; obtain ⟨y, hy, hu⟩ := List.mem_flatten.1 hu; exact hy1 y hy u hu) hk hk2 hbase ?_
    intro v' w' g1 g2 _
    refine h v' w' ?_ g2
    unfold OwnC OwnK
    rw [List.length_append, List.flatMap_append, flat_id ys]
    exact g1
theorem step_append_slk {S T : TypeId} {k bytes : Nat} {ops : Array Oper} {o : Oper} {a : Act} {K : Act → World → Prop} {Q : Exit → Act → World → Prop} {E : Prop} (W : World) (hgd : o.guard = none) (s x : Operand) (hE : ElemK k T S bytes) (hk0 : 0 < k)
    (ho : o.op = .call { callee := .builtin .append, args := #[s, x], argTypes := #[S, S] })
    (base : Nat) (v : Value) (xs : List (List Value)) (hs : a.eval s = v) (hown : OwnC k T W base v xs)
    (src : Value) (ys : List (List Value)) (hx : a.eval x = src) (hsrc : SlK W src ys) (hyk : ∀ cs ∈ ys, cs.length = k) (hy1 : ∀ cs ∈ ys, ∀ u ∈ cs, u.oneCell' = true)
    (hbase : base ≤ W.heap.size) (hk : xs.length + ys.length ≤ maxLen) (hk2 : (xs.length + ys.length) * bytes ≤ 140737488355328)
    (h : ∀ v' w', OwnC k T w' base v' (xs ++ ys) → W.grownBy w' v.ownBlock → K (a.put o.dst v') w') :
    if Region.wanted o (yielded ops a.tmps) = true then Oper.wp Tryz.prog o a W K Q else E := by
  have hw : Region.wanted o (yielded ops a.tmps) = true := by simp [Region.wanted, hgd]
  rw [if_pos hw]
  exact wp_append_slk W s x hE hk0 ho base v xs hs hown src ys hx hsrc hyk hy1 hbase hk hk2 h
end Go.Proofs.YtckammgnmgkieaaGreat

/-
  A range over a function whose iterator hands out values that lead into memory of its own making: the round's body is told a fact D of what was yielded, at the yield's world.
-/
namespace Go.Proofs.YtckammgnmgkieaaGreat
set_option maxRecDepth 20000
open Go Go.RowKit Go.Shelf
set_option linter.unusedVariables false

def SeqStopsD {α : Type} (F : Fence) (n : Nat) (P : Program) (g : Nat) (lb : Array Value) (encs : α → Array Value) (D : α → World → Prop) (Kp : World → World → Prop) (S Sp : List α → Prop) (N : Nat) (w : World) : Prop :=
  ∀ (l : Nat) (J Jx : List α → World → Prop) (W : World), Below w.heap.size w W → AbidesFrom W.heap.size J → AbidesFrom W.heap.size Jx →
    (∀ pre x W1, J pre W1 → D x W1 → pre.length < N → YieldAt F (n - 1) P l (encs x) W1 fun e W' =>
      (e = .returned (.bool true) ∧ J (pre ++ [x]) W' ∧ Kp W1 W') ∨ (e = .returned (.bool false) ∧ Jx (pre ++ [x]) W')) →
    J [] W →
    CallsIn F n P g (#[.func (.yield l) #[] #[]] ++ lb) W fun e W' => (∃ v, e = .returned v) ∧ ((∃ xs, S xs ∧ J xs W') ∨ (∃ pre, Sp pre ∧ Jx pre W'))

structure TwoBk (m : Nat) (r : Loop) (W : World) : Prop where
  lp : W.heap[m + 1]? = some (.loop r)
  dfr : W.heap[m]? = some (.deferred (some []))
theorem TwoBk.lt {m : Nat} {r : Loop} {W : World} (h : TwoBk m r W) : m + 1 < W.heap.size := (Array.getElem?_eq_some_iff.1 h.lp).1
theorem TwoBk.grown {m : Nat} {r : Loop} {W W' : World} {row : Option Nat} (h : TwoBk m r W) (hg : W.grownBy W' row) (hr : ∀ k, row = some k → k ≠ m ∧ k ≠ m + 1) : TwoBk m r W' :=
  ⟨(hg.block _ h.lt (fun e => (hr _ e.symm).2 rfl)).trans h.lp, (hg.block _ (by have := h.lt; omega) (fun e => (hr _ e.symm).1 rfl)).trans h.dfr⟩
theorem TwoBk.walks {m B : Nat} {r : Loop} {W W' : World} {row : Option Nat} (h : TwoBk m r W) (hg : W.grownBy W' row) (hr : ∀ k, row = some k → B ≤ k ∧ ∃ o : Obj, W.heap[k]? = some o ∧ o.isWalk = true) : TwoBk m r W' :=
  h.grown hg fun k e => by
    obtain ⟨_, o, ho, hw⟩ := hr k e
    refine ⟨fun e2 => ?_, fun e2 => ?_⟩
    · subst e2; rw [h.dfr] at ho; cases ho; cases hw
    · subst e2; rw [h.lp] at ho; cases ho; cases hw
theorem TwoBk.kept {m : Nat} {r : Loop} {W W' : World} (h : TwoBk m r W) (hk : KeepsFrom m W W') : TwoBk m r W' := ⟨hk.same _ _ (by omega) h.lp rfl, hk.same _ _ (Nat.le_refl _) h.dfr rfl⟩
theorem TwoBk.turn {m : Nat} {r : Loop} {W : World} (h : TwoBk m r W) (r' : Loop) : TwoBk m r' (W.putObj (m + 1) (.loop r')) := ⟨World.putObj_heap_same h.lt, (World.putObj_heap_other (by omega)).trans h.dfr⟩

variable {F : Fence} {n : Nat} {P : Program}

theorem wpIn_rangeFunc_D {α : Type} {g : Operand} {ps : Array Tmp} {assign body : Code} {Q : Exit → Act → World → Prop} {a : Act} {w : World}
    (hro : F.round = none) (h1 : 1 ≤ n) {gf : Nat} {lb : Array Value} (hg : a.eval g = .func (.func gf) #[] lb) (hFg : F.fn gf) (eg : ∀ args w, (callFunc gf args).run P w = .ok (.enter gf args) w)
    {encs : α → Array Value} {D : α → World → Prop} {Kp : World → World → Prop} {S Sp : List α → Prop} {N : Nat} {w0 : World} (hseq : SeqStopsD F (n - 1) P gf lb encs D Kp S Sp N w0)
    (hKt : ∀ {A B C : World}, Kp A B → Kp B C → Kp A C) (hKb : ∀ (W : World) (l : Nat) (o o' : Obj), w.heap.size ≤ l → W.heap[l]? = some o → o.isCells = false → o.isWalk = false → Kp W (W.putObj l o')) (hb0 : Below w0.heap.size w0 w) (hps : ∀ x, (encs x).size = ps.size)
    (I : List α → World → Prop) (Ix : Code → List α → World → Prop) (hI : OwnFrom w.heap.size I) (hIx : ∀ c, OwnFrom w.heap.size (Ix c)) (h0 : I [] w) (Ax : α → Act → World → Prop) (hAx : ∀ a', OwnFrom w.heap.size (fun x W => Ax x a' W))
    (hassign : ∀ (l : Nat) (pre : List α) (x : α) (W : World) (K : Act → World → Prop), I pre W → D x W → (∀ a' W', KeepsFrom w.heap.size W W' → Kp W W' → I pre W' → Ax x a' W' → K a' W') →
      assign.wpIn (F.inRound l) (n - 1 - 1) P (Exit.then K (fun _ _ _ => False)) { tmps := (ps.zip (encs x)).foldl (fun t (p, v) => t.setIfInBounds p v) a.tmps, defers := [] } W)
    (hbody : ∀ (l : Nat) (pre : List α) (x : α) (a' : Act) (W : World), I pre W → Ax x a' W → pre.length < N → body.wpIn (F.inRound l) (n - 1 - 1) P (ownPostG w.heap.size Kp I Ix (pre ++ [x]) W) a' W)
    (hdone : ∀ (d : Nat) (xs : List α) (W : World), w.heap.size ≤ d → S xs → I xs W → W.heap[d]? = some (.deferred (some [])) → Q .normal { a with defers := { target := .collected d, args := #[] } :: a.defers } W)
    (hstop : ∀ (d : Nat) (c : Code) (pre : List α) (W : World), w.heap.size ≤ d → Sp pre → Ix c pre W → W.heap[d]? = some (.deferred (some [])) → c.wpIn F n P Q { a with defers := { target := .collected d, args := #[] } :: a.defers } W) :
    (Code.rangeFunc g ps assign body).wpIn F n P Q a w := by
  refine wpIn_rangeFunc fun fn hfn => ?_
  rw [hro]
  obtain ⟨m, hm⟩ : ∃ m, w.heap.size = m := ⟨_, rfl⟩
  obtain ⟨R, hR⟩ : ∃ R : LoopState → Option Code → Loop, R = fun st pe => { state := st, pending := pe, fn, tmps := a.tmps, params := ps, assign, body, defers := m } := ⟨_, rfl⟩
  obtain ⟨W1, hW1⟩ : ∃ W1, (w.alloc (.deferred (some []))).alloc (.loop (R .ready none)) = W1 := ⟨_, rfl⟩
  have hsz : W1.heap.size = m + 2 := by rw [← hW1]; simp [hm]
  have hB1 : TwoBk m (R .ready none) W1 := by
    refine ⟨?_, ?_⟩
    · have h := World.alloc_heap_new (w.alloc (.deferred (some []))) (.loop (R .ready none))
      rw [World.size_alloc, hm, hW1] at h; exact h
    · rw [← hW1, ← hm]; exact (Below.heap_alloc _ _ _ (by simp)).trans (World.alloc_heap_new w _)
  have hbw : Below m w W1 := by rw [← hW1, ← hm]; exact ((Below.refl _ w).alloc (Nat.le_refl _) _).alloc (by simp) _
  rw [hm] at hI hKb hassign hbody hdone hstop
  have hAx' : ∀ a', OwnFrom m (fun x W => Ax x a' W) := fun a' => by rw [← hm]; exact hAx a'
  have hIx' : ∀ c, OwnFrom m (Ix c) := fun c => by rw [← hm]; exact hIx c
  have noCells : ∀ {A : World} {row : Option Nat}, (∀ k, row = some k → W1.heap.size ≤ k ∧ ∃ o : Obj, A.heap[k]? = some o ∧ o.isWalk = true) → ∀ k, row = some k → m ≤ k ∧ ∃ o : Obj, A.heap[k]? = some o ∧ o.isCells = false :=
    fun h k e => by obtain ⟨hk, o, ho, hw⟩ := h k e; exact ⟨by omega, o, ho, Obj.not_cells_of_walk hw⟩
  refine ⟨m + 1, [{ target := .collected m, args := #[] }], W1, { target := .fn (.func gf) lb, args := #[.func (.yield (m + 1)) #[] #[]] }, W1, gf, #[.func (.yield (m + 1)) #[] #[]] ++ lb, W1, ?_, ?_, ?_, ?_, fun _ => h1, ?_⟩
  · have h := run_enterLoop_outer (P := P) (w := w) fn a.tmps ps assign body
    rw [hm] at h
    rw [h, ← hW1, hR]
  · simp only [resolve, hg]
    simp [go_sem]
  · intro f' hf'
    simp [Target.leads] at hf'
    subst hf'; exact hFg
  · simp [invoke, go_sem, eg]
  refine (hseq (m + 1) (fun pre W => I pre W ∧ TwoBk m (R .ready none) W) (fun pre W => ∃ c, Ix c pre W ∧ TwoBk m (R .done (some c)) W) W1 (hb0.trans (hbw.mono (by rw [← hm]; exact hb0.size)))
    (fun s A B row hs hgr hr => ⟨hI s A B row hs.1 hgr (noCells hr), hs.2.walks hgr hr⟩)
    (fun s A B row hs hgr hr => by obtain ⟨c, hc, ht⟩ := hs; exact ⟨c, hIx' c s A B row hc hgr (noCells hr), ht.walks hgr hr⟩)
    ?_ ⟨?_, hB1⟩).mono ?_
  · rintro pre x W ⟨hi, ht⟩ hd hlen
    have hy := run_yield (P := P) (args := encs x) ht.lp (by rw [hR]; exact hps x)
    rw [hR] at hy
    refine ⟨fn, _, assign, body, hy, roundIn_of_wpIn hfn (hassign _ pre x W _ hi hd ?_)⟩
    intro a' Wa hka hkpa hia hax
    have hta := ht.kept hka
    obtain ⟨Wb, hWb⟩ : ∃ Wb, Wa.putObj (m + 1) (.loop (R .busy none)) = Wb := ⟨_, rfl⟩
    have hbeg := run_beginRound (P := P) hta.lp (by rw [hR])
    have hbusy : ({ R .ready none with state := .busy } : Loop) = R .busy none := by rw [hR]
    rw [hbusy, hWb] at hbeg
    have htb : TwoBk m (R .busy none) Wb := by rw [← hWb]; exact hta.turn _
    have hib : I pre Wb := by rw [← hWb]; exact hI.putObj _ hia (by omega) hta.lp rfl
    have hab : Ax x a' Wb := by rw [← hWb]; exact (hAx' a').putObj (s := x) _ hax (by omega) hta.lp rfl
    have hkb : Kp W Wb := by rw [← hWb]; exact hKt hkpa (hKb _ _ _ _ (by omega) hta.lp rfl rfl)
    refine ⟨Wb, hbeg, wpIn_mono (hbody _ pre x a' Wb hib hab hlen) ?_⟩
    have fin : ∀ (jump : Option Code) (W3 : World), KeepsFrom m Wb W3 → (Instr.endRound (m + 1) jump).run P W3 = .ok (.bool jump.isNone) (W3.putObj (m + 1) (.loop (R (if jump.isNone then .ready else .done) jump))) ∧ TwoBk m (R .busy none) W3 := fun jump W3 hk => by
      have h3 := htb.kept hk
      have := run_endRound (P := P) jump h3.lp
      rw [hR] at this ⊢
      exact ⟨this, by rw [hR] at h3; exact h3⟩
    have leave : ∀ (c : Code) (W3 : World), KeepsFrom m Wb W3 → Ix c (pre ++ [x]) W3 → ∃ v w', (Instr.endRound (m + 1) (some c)).run P W3 = .ok v w' ∧ ((Ending.returned v = .returned (.bool true) ∧ (I (pre ++ [x]) w' ∧ TwoBk m (R .ready none) w') ∧ Kp W w') ∨ (Ending.returned v = .returned (.bool false) ∧ ∃ c, Ix c (pre ++ [x]) w' ∧ TwoBk m (R .done (some c)) w')) := fun c W3 hk hx => by
      obtain ⟨hr, h3⟩ := fin (some c) W3 hk
      exact ⟨_, _, hr, .inr ⟨rfl, c, (hIx' c).putObj _ hx (by omega) h3.lp rfl, h3.turn _⟩⟩
    intro e a3 W3 hp
    cases e with
    | normal =>
      obtain ⟨hk, hkp, hi3⟩ := hp
      obtain ⟨hr, h3⟩ := fin none W3 hk
      exact ⟨_, _, hr, .inl ⟨rfl, ⟨hI.putObj _ hi3 (by omega) h3.lp rfl, h3.turn _⟩, hKt hkb (hKt hkp (hKb _ _ _ _ (by omega) h3.lp rfl rfl))⟩⟩
    | ret => exact leave _ _ hp.1 hp.2
    | exit id => exact leave _ _ hp.1 hp.2
    | goto t => exact leave _ _ hp.1 hp.2
    | panic ch => exact hp.elim
    | outgrown => exact hp.elim
  · rw [← hW1]; exact hI.alloc _ (hI.alloc _ h0)
  · rintro e W2 ⟨⟨v, rfl⟩, (⟨xs, hS, hi, ht⟩ | ⟨pre, hSp, c, hi, ht⟩)⟩
    · have h := run_endLoop (P := P) ht.lp (by rw [hR]; simp)
      rw [hR] at h
      exact ⟨none, _, h, hdone m xs _ (Nat.le_refl _) hS (hI.putObj _ hi (by omega) ht.lp rfl) ((World.putObj_heap_other (by omega)).trans ht.dfr)⟩
    · have h := run_endLoop (P := P) ht.lp (by rw [hR]; simp)
      rw [hR] at h
      exact ⟨some c, _, h, hstop m c pre _ (Nat.le_refl _) hSp ((hIx' c).putObj _ hi (by omega) ht.lp rfl) ((World.putObj_heap_other (by omega)).trans ht.dfr)⟩
end Go.Proofs.YtckammgnmgkieaaGreat

/-
  law5.Few: are records few, and short.
-/
namespace Go.Proofs.YtckammgnmgkieaaGreat
set_option maxRecDepth 20000
open Go.RowKit Go.Shelf
set_option maxRecDepth 20000
set_option linter.unusedVariables false
set_option linter.unusedSimpArgs false

def RcArg (W : World) (cs : List Value) (r : Rc) : Prop :=
  ∃ vo vn vu vt vr, cs = [vo, .int .u32 (r.ttl : Int), .int .i64 r.data.ty, vn, vu, vt, vr] ∧ NmArg W vo r.owner ∧ DatArg W (.agg #[.int .i64 r.data.ty, vn, vu, vt, vr]) r.data ∧ r.ttl < 2 ^ 32
theorem RcArg.rcAt {W : World} {cs : List Value} {r : Rc} (h : RcArg W cs r) : RcAt W cs r := by
  obtain ⟨vo, vn, vu, vt, vr, e, h1, h2, _⟩ := h
  exact ⟨vo, vn, vu, vt, vr, e, h1.1, h2.1⟩
def fewR (r : Rc) : Bool := fewN r.owner && fewD r.data
theorem RcArg.ok {W : World} {cs : List Value} {r : Rc} (h : RcArg W cs r) (hf : fewR r = true) : RcOK r := by
  obtain ⟨vo, vn, vu, vt, vr, e, h1, h2, h3⟩ := h
  simp only [fewR, Bool.and_eq_true] at hf
  exact ⟨fewN_ok hf.1, h3, fewD_ok h2 hf.2⟩
def fewRs (l : List Rc) : Bool := decide (l.length ≤ 60) && l.all fewR
theorem all_step {l : List Rc} {k : Nat} (h : k < l.length) : (l.drop k).all fewR = (fewR l[k] && (l.drop (k + 1)).all fewR) := by
  rw [List.drop_eq_getElem_cons h]; rfl

set_option maxRecDepth 100000 in
set_option maxHeartbeats 8000000 in
theorem law5_Few (v : Value) (css : List (List Value)) (l : List Rc) (w0 w : World) (hA : SlK w0 v css) (hR : css.length = l.length ∧ ∀ i (h1 : i < css.length) (h2 : i < l.length), RcArg w0 css[i] l[i]) (hwz : Below w0.heap.size w0 w) :
    Calls Tryz.prog 12 #[v] w fun e w' => e = .returned (.bool (fewRs l)) ∧ Below w.heap.size w w' := by
  obtain ⟨a, c, rfl, hc1, -, -⟩ := id hA
  obtain ⟨n, hn⟩ : ∃ n, css.length = n := ⟨_, rfl⟩
  rw [hn] at hA hc1 ⊢
  have HA := Lib.hid hA; have HR := Lib.hid hR; have HWZ := Lib.hid hwz; have HLN := Lib.hid hn
  have HLL := Lib.hid (show l.length = n by rw [← hn]; exact hR.1.symm)
  obtain ⟨res, hres⟩ : ∃ r, fewRs l = r := ⟨_, rfl⟩
  rw [hres]
  have HRES := Lib.hid hres
  clear hA hR hwz hn hres
  by_cases h60 : 60 < n
  · have h60z : (60 : Int) < (n : Int) := by omega
    have HE : Hid (res = false) := Lib.hid (by
      rw [← HRES.out]; unfold fewRs
      rw [decide_eq_false (by have := HLL.out; omega)]; rfl)
    go_enter Tryz.func12, Tryz.ntmps12
    go_wp2
    go_ret
    exact ⟨by rw [HE.out]; rfl, Below.refl _ _⟩
  · have h60z : ¬ (60 : Int) < (n : Int) := by omega
    have HE0 : Hid (res = l.all fewR) := Lib.hid (by
      rw [← HRES.out]; unfold fewRs
      rw [decide_eq_true (by have := HLL.out; omega)]; rfl)
    go_enter Tryz.func12, Tryz.ntmps12
    go_wp2
    go_loopw [3] (fun vi wr => ∃ (k : Nat), vi = .int .i64 k ∧ k ≤ n ∧ Hid (res = (l.drop k).all fewR) ∧ Hid (Below w.heap.size w wr)) (fun vi _ => n - (intOf vi).toNat)
    case atStart => exact ⟨0, rfl, Nat.zero_le _, Lib.hid HE0.out, Lib.hid (Below.refl _ _)⟩
    case round =>
      obtain ⟨k, rfl, hk, HC, HB⟩ := hrel
      by_cases hlt : k < n
      · have hltz : (k : Int) < (n : Int) := by omega
        have hk1 : k < css.length := by have := HLN.out; omega
        have hk2 : k < l.length := by have := HLL.out; omega
        have hck : ∀ cs ∈ css, cs.length = 7 := fun cs hc => by
          obtain ⟨i, hi, rfl⟩ := List.mem_iff_getElem.1 hc
          exact (HR.out.2 i hi (by have := HR.out.1; omega)).rcAt.len
        obtain ⟨b, off, rfl, hb, hel⟩ := HA.out.elem hck (by omega)
        have hbz : Below w0.heap.size w0 wr := HWZ.out.trans (HB.out.mono HWZ.out.size)
        have h0 := HR.out.2 k hk1 hk2
        have hst := all_step hk2
        obtain ⟨r, hr⟩ : ∃ r, l[k]'hk2 = r := ⟨_, rfl⟩
        rw [hr] at h0 hst
        clear hr
        obtain ⟨⟨p0, q0, r0⟩, ⟨p3, q3, r3⟩, ⟨p4, q4, r4⟩, ⟨p5, q5, r5⟩, ⟨p6, q6, r6⟩, e0⟩ := h0.rcAt.shape
        simp only at e0
        obtain ⟨c0, c1, c2, c3, c4, c5, c6⟩ := hel k hk1 _ _ _ _ _ _ _ e0 wr hbz
        have HEL := Lib.hid (fun W hb => hel k hk1 _ _ _ _ _ _ _ e0 W hb)
        rw [e0] at h0
        obtain ⟨_, _, _, _, _, e5, g1, g2, _⟩ := h0
        simp only [List.cons.injEq, and_true, true_and] at e5
        obtain ⟨rfl, rfl, rfl, rfl, rfl⟩ := e5
        obtain ⟨fn1, hf1⟩ : ∃ b, fewN r.owner = b := ⟨_, rfl⟩
        obtain ⟨fn2, hf2⟩ : ∃ b, fewD r.data = b := ⟨_, rfl⟩
        have hkf := kn_Few _ r.owner _ hf1 w0 wr g1 (g1.1.below hbz)
        have HDF := Lib.hid (fun W (hb : Below w0.heap.size w0 W) => law4_Few _ r.data W ⟨g2.1.below hb, g2.2⟩)
        rw [hf2] at HDF
        have HC2 : Hid (res = ((fn1 && fn2) && (l.drop (k + 1)).all fewR)) := Lib.hid (by rw [HC.out, hst]; unfold fewR; rw [hf1, hf2])
        have HBZ := Lib.hid hbz
        clear hst hf1 hf2 g1 g2 hbz hel e0 hck HC hk1 hk2
        cases fn1
        · have HE : Hid (res = false) := Lib.hid (by rw [HC2.out]; rfl)
          clear HC2
          go_wp2_with fail
          refine hkf.mono ?_
          rintro e w2 ⟨rfl, hb2⟩
          have HB2 := Lib.hid (HB.out.trans (hb2.mono HB.out.size))
          clear hb2 hkf
          go_wp2
          go_ret
          exact ⟨by rw [HE.out]; rfl, HB2.out⟩
        · go_wp2_with fail
          refine hkf.mono ?_
          rintro e w2 ⟨rfl, hb2⟩
          have HB2 := Lib.hid (HB.out.trans (hb2.mono HB.out.size))
          have hb0 : Below w0.heap.size w0 w2 := HBZ.out.trans (hb2.mono HBZ.out.size)
          obtain ⟨d0, d1, d2, d3, d4, d5, d6⟩ := HEL.out w2 hb0
          have hdf := HDF.out w2 hb0
          clear hb2 hkf hb0 c0 c1 c2 c3 c4 c5 c6 HEL HDF
          go_wp2_with fail
          refine hdf.mono ?_
          rintro e w3 ⟨rfl, hb3⟩
          have HB3 := Lib.hid (HB2.out.trans (hb3.mono HB2.out.size))
          clear hb3 hdf d0 d1 d2 d3 d4 d5 d6
          cases fn2
          · have HE : Hid (res = false) := Lib.hid (by rw [HC2.out]; rfl)
            clear HC2
            go_wp2
            go_ret
            exact ⟨by rw [HE.out]; rfl, HB3.out⟩
          · have HE : Hid (res = (l.drop (k + 1)).all fewR) := Lib.hid (by rw [HC2.out]; rfl)
            clear HC2
            go_wp2
            go_roundw
            case measure => simp [intOf]; omega
            case rel => exact ⟨k + 1, by go_num, by omega, HE, HB3⟩
      · obtain rfl : k = n := by omega
        have HE : Hid (res = true) := Lib.hid (by
          rw [HC.out, List.drop_of_length_le (by have := HLL.out; omega)]; rfl)
        clear HC
        go_wp2
        go_ret
        exact ⟨by rw [HE.out]; rfl, HB.out⟩
end Go.Proofs.YtckammgnmgkieaaGreat

/-
  Part of a proof.
-/
namespace Go.Proofs.YtckammgnmgkieaaGreat
set_option maxRecDepth 20000
open Go Go.ChangeShapes Go.WideShapes Go.ChangeAt Go.RowKit Go.Shelf
set_option maxRecDepth 20000
theorem sl_row {W : World} {x : Addr} {l c : Nat} (f : Nat → Value) (hl : l ≤ c) (hcell : ∀ i, i < c → W.cell? (x.add i) = some (f i)) : SlAt W (.slice (some x) l c) ((List.range l).map f) := by
  refine ⟨some x, c, by simp, by simpa using hl, by simp, ?_⟩
  by_cases h0 : l = 0
  · subst h0; left; simp
  · right
    obtain ⟨b, off, spot⟩ := x
    have hspot : spot = none := by simpa [Addr.add] using World.cell?_spot (hcell 0 (by omega))
    subst hspot
    have hb : b < W.heap.size := by
      have h := hcell 0 (by omega)
      exact World.block_lt_of_cell? W _ (by simpa [Addr.add] using h : W.cell? ⟨b, off, none⟩ = some (f 0))
    refine ⟨b, off, rfl, hb, fun j hj => ?_⟩
    rw [List.length_map, List.length_range] at hj
    rw [← Go.WideShapes.add_plain, hcell j (by omega)]
    simp
theorem ints_row {W : World} {k : IntKind} {x : Addr} {l c : Nat} {zs : List Int} (hl : l ≤ c) (hz : zs.length = c) (hcell : ∀ i, i < zs.length → W.cell? (x.add i) = some (.int k (zs.getD i 0))) : SlAt W (.slice (some x) l c) ((zs.take l).map fun z => .int k z) := by
  have h := sl_row (fun i => Value.int k (zs.getD i 0)) hl (fun i hi => hcell i (by omega))
  have e : (List.range l).map (fun i => Value.int k (zs.getD i 0)) = (zs.take l).map fun z => Value.int k z := by
    apply List.ext_getElem
    · simp; omega
    · intro i h1 h2
      simp only [List.length_map, List.length_range] at h1
      have : i < zs.length := by omega
      simp [List.getD, this]
  rwa [e] at h
variable {H : Type} {enc : TypeId × Value → H} {W : World}
theorem cells3 : Tryz.prog.cellsOf 3 = 1 ∧ Tryz.prog.cellsOf 42 = 1 ∧ Tryz.prog.cellsOf 98 = 1 ∧ Tryz.prog.cellsOf 23 = 1 ∧ Tryz.prog.cellsOf 99 = 1 ∧ Tryz.prog.cellsOf 101 = 5 ∧ Tryz.prog.cellsOf 24 = 1 ∧ Tryz.prog.cellsOf 9 = 1 ∧ Tryz.prog.cellsOf 35 = 1 ∧ Tryz.prog.cellsOf 5 = 1 :=
  ⟨by kernel_rfl, by kernel_rfl, by kernel_rfl, by kernel_rfl, by kernel_rfl, by kernel_rfl, by kernel_rfl, by kernel_rfl, by kernel_rfl, by kernel_rfl⟩
theorem open_nm {t : TypeId} (ht : Tryz.prog.underlying t = some (.slice 9)) {fuel : Nat} {v : Value} {x : DataW H × List MemPlace} (hf : DataW.trod enc Tryz.prog W 0 (fun _ => true) true fuel t [v] = some x) : ∃ zs, NmArg W v zs := by
  rcases Go.ChangeShapes.open_strings ht Tryz.underlying9 (by kernel_rfl) hf with ⟨hcs, _⟩ | ⟨x, l, c, zs, hcs, _, hl, hm, hz, _, hcell, hwz⟩
  · simp at hcs
    subst hcs
    exact ⟨[], nmArg_nil W⟩
  · simp at hcs
    subst hcs
    exact ⟨_, nmArg_row hl hm (by simpa using hz) hcell hwz⟩
theorem open_nms {fuel : Nat} {v : Value} {x : DataW H × List MemPlace} (hf : DataW.trod enc Tryz.prog W 0 (fun _ => true) true fuel 42 [v] = some x) : ∃ ns : List Nm, NmsAt W v ns ∧ ∀ n ∈ ns, n.length ≤ maxLen ∧ ∀ y ∈ n, y.length ≤ maxLen := by
  rcases Go.Deep.open_slice1 Tryz.underlying42 (by kernel_rfl) hf with ⟨hcs, _⟩ | ⟨a, len, cap, m, n, V, D, Pl, hcs, _, hl, hm, hmm, _, hV⟩
  · simp at hcs
    subst hcs
    exact ⟨[], NmsAt.nil W, by simp⟩
  · simp at hcs
    subst hcs
    simp only [if_true] at hmm
    subst hmm
    obtain ⟨F, hF⟩ := Go.Deep.choose_lt (α := Nm) (p := fun i z => NmArg W (V i) z) (fun i hi => open_nm Tryz.underlying24 (hV i hi).2)
    refine ⟨(List.range len).map F, ⟨(List.range len).map V, sl_row V hl (fun i hi => (hV i hi).1), by simp, fun j hj => ?_⟩, ?_⟩
    · simp only [List.length_map, List.length_range] at hj
      simpa using (hF j (by omega)).1
    · intro n hn
      obtain ⟨i, hi, rfl⟩ := List.mem_map.1 hn
      exact (hF i (by have := List.mem_range.1 hi; omega)).2
theorem wf_u32 {n : Int} (h : (Lit.int .u32 n).wf = true) : 0 ≤ n ∧ n < 2 ^ 32 := by
  simp [Lit.wf] at h
  have e1 : IntKind.u32.min = 0 := by decide
  have e2 : IntKind.u32.max = 4294967295 := by decide
  omega
theorem wf_u8 {n : Int} (h : (Lit.int .u8 n).wf = true) : 0 ≤ n ∧ n < 256 := by
  simp [Lit.wf] at h
  have e1 : IntKind.u8.min = 0 := by decide
  have e2 : IntKind.u8.max = 255 := by decide
  omega
theorem wf_i64 {n : Int} (h : (Lit.int .i64 n).wf = true) : -(2 ^ 63) ≤ n ∧ n < 2 ^ 63 := by
  simp [Lit.wf] at h
  have e1 : IntKind.i64.min = -9223372036854775808 := by decide
  have e2 : IntKind.i64.max = 9223372036854775807 := by decide
  omega
theorem open_u32s {fuel : Nat} {v : Value} {x : DataW H × List MemPlace} (hf : DataW.trod enc Tryz.prog W 0 (fun _ => true) true fuel 98 [v] = some x) : ∃ ns : List Nat, SlAt W v (ns.map u32V) ∧ ∀ n ∈ ns, n < 2 ^ 32 := by
  rcases open_ints Tryz.underlying98 Tryz.underlying35 (by kernel_rfl) hf with ⟨hcs, _⟩ | ⟨a, l, c, zs, hcs, _, hl, hm, hz, _, hcell, hw⟩
  · simp at hcs
    subst hcs
    exact ⟨[], SlAt.nil W, by simp⟩
  · simp at hcs
    subst hcs
    refine ⟨(zs.take l).map Int.toNat, ?_, ?_⟩
    · have h := ints_row hl (by simpa using hz) hcell
      have e : ((zs.take l).map Int.toNat).map u32V = (zs.take l).map fun z => Value.int .u32 z := by
        rw [List.map_map]
        apply List.map_congr_left
        intro z hz
        have := wf_u32 (hw z (List.mem_of_mem_take hz))
        show Value.int .u32 ((z.toNat : Nat) : Int) = _
        rw [Int.toNat_of_nonneg this.1]
      rw [e]; exact h
    · intro n hn
      obtain ⟨z, hz, rfl⟩ := List.mem_map.1 hn
      have := wf_u32 (hw z (List.mem_of_mem_take hz))
      omega
theorem open_u8s {fuel : Nat} {v : Value} {x : DataW H × List MemPlace} (hf : DataW.trod enc Tryz.prog W 0 (fun _ => true) true fuel 99 [v] = some x) : ∃ ns : List UInt8, SlAt W v (ns.map bv) := by
  rcases open_ints Tryz.underlying99 Tryz.underlying5 (by kernel_rfl) hf with ⟨hcs, _⟩ | ⟨a, l, c, zs, hcs, _, hl, hm, hz, _, hcell, hw⟩
  · simp at hcs
    subst hcs
    exact ⟨[], SlAt.nil W⟩
  · simp at hcs
    subst hcs
    refine ⟨(zs.take l).map fun z => UInt8.ofNat z.toNat, ?_⟩
    have h := ints_row hl (by simpa using hz) hcell
    have e : ((zs.take l).map fun z => UInt8.ofNat z.toNat).map bv = (zs.take l).map fun z => Value.int .u8 z := by
      rw [List.map_map]
      apply List.map_congr_left
      intro z hz
      have := wf_u8 (hw z (List.mem_of_mem_take hz))
      show Value.int .u8 ((UInt8.ofNat z.toNat).toNat : Int) = _
      congr 1
      simp
      omega
    rw [e]; exact h
theorem open_data {fuel : Nat} {cs : List Value} {x : DataW H × List MemPlace} (hf : DataW.trod enc Tryz.prog W 0 (fun _ => true) true fuel 101 cs = some x) : ∃ d, DatArg W (.agg cs.toArray) d := by
  obtain ⟨k1, k2, k3, k4, k5, k6, _⟩ := cells3
  obtain ⟨xs, n, _, _, hl, hx, hfd⟩ := DataW.trod_struct Tryz.underlying101 hf
  rw [k6] at hl
  match cs, hl with
  | [c0, c1, c2, c3, c4], _ =>
  match xs, hx with
  | [y0, y1, y2, y3, y4], _ =>
  have h0 : DataW.trod enc Tryz.prog W 0 (fun _ => true) true n 3 (List.take (Tryz.prog.cellsOf 3) (List.drop 0 [c0, c1, c2, c3, c4])) = some y0 := hfd 0 _ rfl
  rw [k1] at h0
  replace h0 : DataW.trod enc Tryz.prog W 0 (fun _ => true) true n 3 [c0] = some y0 := h0
  have h1 : DataW.trod enc Tryz.prog W 0 (fun _ => true) true n 42 (List.take (Tryz.prog.cellsOf 42) (List.drop 1 [c0, c1, c2, c3, c4])) = some y1 := hfd 1 _ rfl
  rw [k2] at h1
  replace h1 : DataW.trod enc Tryz.prog W 0 (fun _ => true) true n 42 [c1] = some y1 := h1
  have h2 : DataW.trod enc Tryz.prog W 0 (fun _ => true) true n 98 (List.take (Tryz.prog.cellsOf 98) (List.drop 2 [c0, c1, c2, c3, c4])) = some y2 := hfd 2 _ rfl
  rw [k3] at h2
  replace h2 : DataW.trod enc Tryz.prog W 0 (fun _ => true) true n 98 [c2] = some y2 := h2
  have h3 : DataW.trod enc Tryz.prog W 0 (fun _ => true) true n 23 (List.take (Tryz.prog.cellsOf 23) (List.drop 3 [c0, c1, c2, c3, c4])) = some y3 := hfd 3 _ rfl
  rw [k4] at h3
  replace h3 : DataW.trod enc Tryz.prog W 0 (fun _ => true) true n 23 [c3] = some y3 := h3
  have h4 : DataW.trod enc Tryz.prog W 0 (fun _ => true) true n 99 (List.take (Tryz.prog.cellsOf 99) (List.drop 4 [c0, c1, c2, c3, c4])) = some y4 := hfd 4 _ rfl
  rw [k5] at h4
  replace h4 : DataW.trod enc Tryz.prog W 0 (fun _ => true) true n 99 [c4] = some y4 := h4
  obtain ⟨ty, e0, _, w0⟩ := DataW.trod_int Tryz.underlying3 h0
  obtain ⟨ns, n1, n2⟩ := open_nms h1
  obtain ⟨us, u1, u2⟩ := open_u32s h2
  obtain ⟨ts, t1⟩ := open_nm Tryz.underlying23 h3
  obtain ⟨rs, r1⟩ := open_u8s h4
  simp at e0
  subst e0
  exact ⟨⟨ty, ns, us, ts, rs⟩, ⟨c1, c2, c3, c4, rfl, n1, u1, t1.1, r1⟩, wf_i64 w0, n2, u2, t1.2.2⟩
theorem cellsRec : Tryz.prog.cellsOf 103 = 7 := by kernel_rfl
theorem open_rec {fuel : Nat} {cs : List Value} {x : DataW H × List MemPlace} (hf : DataW.trod enc Tryz.prog W 0 (fun _ => true) true fuel 103 cs = some x) : ∃ r, RcArg W cs r := by
  obtain ⟨k1, k2, k3, k4, k5, k6, k7, k8, k9, _⟩ := cells3
  obtain ⟨xs, n, _, _, hl, hx, hfd⟩ := DataW.trod_struct Tryz.underlying103 hf
  rw [cellsRec] at hl
  match cs, hl with
  | [c0, c1, c2, c3, c4, c5, c6], _ =>
  match xs, hx with
  | [y0, y1, y2], _ =>
  have h0 : DataW.trod enc Tryz.prog W 0 (fun _ => true) true n 24 (List.take (Tryz.prog.cellsOf 24) (List.drop 0 [c0, c1, c2, c3, c4, c5, c6])) = some y0 := hfd 0 _ rfl
  rw [k7] at h0
  replace h0 : DataW.trod enc Tryz.prog W 0 (fun _ => true) true n 24 [c0] = some y0 := h0
  have h1 : DataW.trod enc Tryz.prog W 0 (fun _ => true) true n 35 (List.take (Tryz.prog.cellsOf 35) (List.drop 1 [c0, c1, c2, c3, c4, c5, c6])) = some y1 := hfd 1 _ rfl
  rw [k9] at h1
  replace h1 : DataW.trod enc Tryz.prog W 0 (fun _ => true) true n 35 [c1] = some y1 := h1
  have h2 : DataW.trod enc Tryz.prog W 0 (fun _ => true) true n 101 (List.take (Tryz.prog.cellsOf 101) (List.drop 2 [c0, c1, c2, c3, c4, c5, c6])) = some y2 := hfd 2 _ rfl
  rw [k6] at h2
  replace h2 : DataW.trod enc Tryz.prog W 0 (fun _ => true) true n 101 [c2, c3, c4, c5, c6] = some y2 := h2
  obtain ⟨o, o1⟩ := open_nm Tryz.underlying24 h0
  obtain ⟨t, e1, _, w1⟩ := DataW.trod_int Tryz.underlying35 h1
  obtain ⟨d, hd⟩ := open_data h2
  simp at e1
  subst e1
  have ht := wf_u32 w1
  obtain ⟨vn, vu, vt, vr, e, hh⟩ := hd.1
  have e' : [c2, c3, c4, c5, c6] = [Value.int .i64 d.ty, vn, vu, vt, vr] := by
    have : [c2, c3, c4, c5, c6].toArray = #[Value.int .i64 d.ty, vn, vu, vt, vr] := by injection e
    exact congrArg Array.toList this
  simp only [List.cons.injEq, and_true] at e'
  obtain ⟨rfl, rfl, rfl, rfl, rfl⟩ := e'
  refine ⟨⟨o, t.toNat, d⟩, _, _, _, _, _, ?_, o1, hd, by show t.toNat < 2 ^ 32; omega⟩
  show [_, Value.int .u32 t, _, _, _, _, _] = [_, Value.int .u32 ((t.toNat : Nat) : Int), _, _, _, _, _]
  rw [Int.toNat_of_nonneg ht.1]
theorem flatten_at (k : Nat) (k0 : 0 < k) : ∀ (l : List (List Value)), (∀ cs ∈ l, cs.length = k) → ∀ (t : Nat) (u : Value), l.flatten[t]? = some u → ∃ h : t / k < l.length, (l[t / k])[t % k]? = some u
  | [], _, t, u, h => by simp at h
  | x :: r, hk, t, u, h => by
    have hx := hk x (by simp)
    rw [List.flatten_cons] at h
    by_cases ht : t < k
    · rw [List.getElem?_append_left (by omega)] at h
      have e0 : t / k = 0 := Nat.div_eq_of_lt ht
      have e1 : t % k = t := Nat.mod_eq_of_lt ht
      refine ⟨by rw [e0]; simp, ?_⟩
      simp only [e0, e1, List.getElem_cons_zero]
      exact h
    · rw [List.getElem?_append_right (by omega), hx] at h
      obtain ⟨h1, h2⟩ := flatten_at k k0 r (fun cs hc => hk cs (by simp [hc])) (t - k) u h
      have e0 : t / k = (t - k) / k + 1 := by
        rw [Nat.div_eq_sub_div k0 (by omega)]
      have e1 : t % k = (t - k) % k := by
        rw [Nat.mod_eq_sub_mod (by omega)]
      refine ⟨by rw [e0]; simpa using h1, ?_⟩
      simp only [e0, e1, List.getElem_cons_succ]
      exact h2
instance inhRec : Inhabited (List Value × Rc) := ⟨([], Rc.none)⟩
theorem open_recs {fuel : Nat} {v : Value} {x : DataW H × List MemPlace} (hf : DataW.trod enc Tryz.prog W 0 (fun _ => true) true fuel 22 [v] = some x) :
    ∃ (css : List (List Value)) (l : List Rc), SlK W v css ∧ css.length = l.length ∧ ∀ i (h1 : i < css.length) (h2 : i < l.length), RcArg W css[i] l[i] := by
  rcases Go.Deep.open_slice Tryz.underlying22 hf with ⟨hcs, _⟩ | ⟨a, len, cap, m, n, D, Pl, hcs, _, hl, hm, hmm, _, hV⟩
  · simp at hcs
    subst hcs
    exact ⟨[], [], SlK.nil W, rfl, fun i h1 => absurd h1 (Nat.not_lt_zero _)⟩
  · simp at hcs
    subst hcs
    simp only [if_true] at hmm
    subst hmm
    rw [cellsRec] at hV
    obtain ⟨F, hF⟩ := Go.Deep.choose_lt (α := List Value × Rc) (p := fun i z => W.cells? 0 (a.add (i * 7)) 7 = some z.1 ∧ RcArg W z.1 z.2) (fun i hi => by
      obtain ⟨cs', h1, h2⟩ := hV i hi
      obtain ⟨r, hr⟩ := open_rec h2
      exact ⟨(cs', r), h1, hr⟩)
    have hlen : ∀ i, i < len → (F i).1.length = 7 := fun i hi => (World.cells?_some (hF i (by omega)).1).2.1
    refine ⟨(List.range len).map fun i => (F i).1, (List.range len).map fun i => (F i).2, ⟨some a, m, by simp, by simpa using hl, (fun e => by cases e), ?_⟩, by simp, fun i h1 h2 => ?_⟩
    · by_cases h0 : len = 0
      · subst h0; left; rfl
      · right
        obtain ⟨b, off, spot⟩ := a
        have hc0 := (World.cells?_some (hF 0 (by omega)).1).2.2 0 (by omega)
        rw [List.getElem?_eq_getElem (by rw [hlen 0 (by omega)]; omega)] at hc0
        have hspot : spot = none := by simpa [Addr.add] using World.cell?_spot hc0
        subst hspot
        have hb : b < W.heap.size := World.block_lt_of_cell? W _ (by simpa [Addr.add] using hc0 : W.cell? ⟨b, off, none⟩ = some _)
        refine ⟨b, off, rfl, hb, fun j u hj => ?_⟩
        obtain ⟨h1, h2⟩ := flatten_at 7 (by omega) _ (fun cs hc => by
          obtain ⟨i, hi, rfl⟩ := List.mem_map.1 hc
          exact hlen i (List.mem_range.1 hi)) j u hj
        have hi : j / 7 < len := by simpa using h1
        rw [List.getElem_map, List.getElem_range] at h2
        have hd : j % 7 < 7 := Nat.mod_lt _ (by omega)
        have hc := (World.cells?_some (hF (j / 7) (by omega)).1).2.2 (j % 7) hd
        rw [h2] at hc
        rw [Addr.add_lit, Addr.add_lit, show off + j / 7 * 7 + j % 7 = off + j by omega] at hc
        exact hc
    · simp only [List.length_map, List.length_range] at h1
      simpa using (hF i (by omega)).2
end Go.Proofs.YtckammgnmgkieaaGreat

