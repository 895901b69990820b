/-
  A range over a function whose iterator hands out values that lead into memory of its own making: the round's body is told a fact D of what was yielded, at the yield's world.
-/
import Derived.Test.YtckammgnmgkieaaGreatMQ10
import Derived.RangeFuncNested
import Derived.Deep.RegionLaw
namespace Go.Proofs.YtckammgnmgkieaaGreat
set_option maxRecDepth 20000
open Go Go.RowKit Go.Shelf
set_option linter.unusedVariables false

def SeqStopsD {α : Type} (F : Fence) (n : Nat) (P : Program) (g : Nat) (lb : Array Value) (encs : α → Array Value) (D : α → World → Prop) (Kp : World → World → Prop) (S Sp : List α → Prop) (N : Nat) (w : World) : Prop :=
  ∀ (l : Nat) (J Jx : List α → World → Prop) (W : World), Below w.heap.size w W → AbidesFrom W.heap.size J → AbidesFrom W.heap.size Jx →
    (∀ pre x W1, J pre W1 → D x W1 → pre.length < N → YieldAt F (n - 1) P l (encs x) W1 fun e W' =>
      (e = .returned (.bool true) ∧ J (pre ++ [x]) W' ∧ Kp W1 W') ∨ (e = .returned (.bool false) ∧ Jx (pre ++ [x]) W')) →
    J [] W →
    CallsIn F n P g (#[.func (.yield l) #[] #[]] ++ lb) W fun e W' => (∃ v, e = .returned v) ∧ ((∃ xs, S xs ∧ J xs W') ∨ (∃ pre, Sp pre ∧ Jx pre W'))

structure TwoBk (m : Nat) (r : Loop) (W : World) : Prop where
  lp : W.heap[m + 1]? = some (.loop r)
  dfr : W.heap[m]? = some (.deferred (some []))
theorem TwoBk.lt {m : Nat} {r : Loop} {W : World} (h : TwoBk m r W) : m + 1 < W.heap.size := (Array.getElem?_eq_some_iff.1 h.lp).1
theorem TwoBk.grown {m : Nat} {r : Loop} {W W' : World} {row : Option Nat} (h : TwoBk m r W) (hg : W.grownBy W' row) (hr : ∀ k, row = some k → k ≠ m ∧ k ≠ m + 1) : TwoBk m r W' :=
  ⟨(hg.block _ h.lt (fun e => (hr _ e.symm).2 rfl)).trans h.lp, (hg.block _ (by have := h.lt; omega) (fun e => (hr _ e.symm).1 rfl)).trans h.dfr⟩
theorem TwoBk.walks {m B : Nat} {r : Loop} {W W' : World} {row : Option Nat} (h : TwoBk m r W) (hg : W.grownBy W' row) (hr : ∀ k, row = some k → B ≤ k ∧ ∃ o : Obj, W.heap[k]? = some o ∧ o.isWalk = true) : TwoBk m r W' :=
  h.grown hg fun k e => by
    obtain ⟨_, o, ho, hw⟩ := hr k e
    refine ⟨fun e2 => ?_, fun e2 => ?_⟩
    · subst e2; rw [h.dfr] at ho; cases ho; cases hw
    · subst e2; rw [h.lp] at ho; cases ho; cases hw
theorem TwoBk.kept {m : Nat} {r : Loop} {W W' : World} (h : TwoBk m r W) (hk : KeepsFrom m W W') : TwoBk m r W' := ⟨hk.same _ _ (by omega) h.lp rfl, hk.same _ _ (Nat.le_refl _) h.dfr rfl⟩
theorem TwoBk.turn {m : Nat} {r : Loop} {W : World} (h : TwoBk m r W) (r' : Loop) : TwoBk m r' (W.putObj (m + 1) (.loop r')) := ⟨World.putObj_heap_same h.lt, (World.putObj_heap_other (by omega)).trans h.dfr⟩

variable {F : Fence} {n : Nat} {P : Program}

theorem wpIn_rangeFunc_D {α : Type} {g : Operand} {ps : Array Tmp} {assign body : Code} {Q : Exit → Act → World → Prop} {a : Act} {w : World}
    (hro : F.round = none) (h1 : 1 ≤ n) {gf : Nat} {lb : Array Value} (hg : a.eval g = .func (.func gf) #[] lb) (hFg : F.fn gf) (eg : ∀ args w, (callFunc gf args).run P w = .ok (.enter gf args) w)
    {encs : α → Array Value} {D : α → World → Prop} {Kp : World → World → Prop} {S Sp : List α → Prop} {N : Nat} {w0 : World} (hseq : SeqStopsD F (n - 1) P gf lb encs D Kp S Sp N w0)
    (hKt : ∀ {A B C : World}, Kp A B → Kp B C → Kp A C) (hKb : ∀ (W : World) (l : Nat) (o o' : Obj), w.heap.size ≤ l → W.heap[l]? = some o → o.isCells = false → o.isWalk = false → Kp W (W.putObj l o')) (hb0 : Below w0.heap.size w0 w) (hps : ∀ x, (encs x).size = ps.size)
    (I : List α → World → Prop) (Ix : Code → List α → World → Prop) (hI : OwnFrom w.heap.size I) (hIx : ∀ c, OwnFrom w.heap.size (Ix c)) (h0 : I [] w) (Ax : α → Act → World → Prop) (hAx : ∀ a', OwnFrom w.heap.size (fun x W => Ax x a' W))
    (hassign : ∀ (l : Nat) (pre : List α) (x : α) (W : World) (K : Act → World → Prop), I pre W → D x W → (∀ a' W', KeepsFrom w.heap.size W W' → Kp W W' → I pre W' → Ax x a' W' → K a' W') →
      assign.wpIn (F.inRound l) (n - 1 - 1) P (Exit.then K (fun _ _ _ => False)) { tmps := (ps.zip (encs x)).foldl (fun t (p, v) => t.setIfInBounds p v) a.tmps, defers := [] } W)
    (hbody : ∀ (l : Nat) (pre : List α) (x : α) (a' : Act) (W : World), I pre W → Ax x a' W → pre.length < N → body.wpIn (F.inRound l) (n - 1 - 1) P (ownPostG w.heap.size Kp I Ix (pre ++ [x]) W) a' W)
    (hdone : ∀ (d : Nat) (xs : List α) (W : World), w.heap.size ≤ d → S xs → I xs W → W.heap[d]? = some (.deferred (some [])) → Q .normal { a with defers := { target := .collected d, args := #[] } :: a.defers } W)
    (hstop : ∀ (d : Nat) (c : Code) (pre : List α) (W : World), w.heap.size ≤ d → Sp pre → Ix c pre W → W.heap[d]? = some (.deferred (some [])) → c.wpIn F n P Q { a with defers := { target := .collected d, args := #[] } :: a.defers } W) :
    (Code.rangeFunc g ps assign body).wpIn F n P Q a w := by
  refine wpIn_rangeFunc fun fn hfn => ?_
  rw [hro]
  obtain ⟨m, hm⟩ : ∃ m, w.heap.size = m := ⟨_, rfl⟩
  obtain ⟨R, hR⟩ : ∃ R : LoopState → Option Code → Loop, R = fun st pe => { state := st, pending := pe, fn, tmps := a.tmps, params := ps, assign, body, defers := m } := ⟨_, rfl⟩
  obtain ⟨W1, hW1⟩ : ∃ W1, (w.alloc (.deferred (some []))).alloc (.loop (R .ready none)) = W1 := ⟨_, rfl⟩
  have hsz : W1.heap.size = m + 2 := by rw [← hW1]; simp [hm]
  have hB1 : TwoBk m (R .ready none) W1 := by
    refine ⟨?_, ?_⟩
    · have h := World.alloc_heap_new (w.alloc (.deferred (some []))) (.loop (R .ready none))
      rw [World.size_alloc, hm, hW1] at h; exact h
    · rw [← hW1, ← hm]; exact (Below.heap_alloc _ _ _ (by simp)).trans (World.alloc_heap_new w _)
  have hbw : Below m w W1 := by rw [← hW1, ← hm]; exact ((Below.refl _ w).alloc (Nat.le_refl _) _).alloc (by simp) _
  rw [hm] at hI hKb hassign hbody hdone hstop
  have hAx' : ∀ a', OwnFrom m (fun x W => Ax x a' W) := fun a' => by rw [← hm]; exact hAx a'
  have hIx' : ∀ c, OwnFrom m (Ix c) := fun c => by rw [← hm]; exact hIx c
  have noCells : ∀ {A : World} {row : Option Nat}, (∀ k, row = some k → W1.heap.size ≤ k ∧ ∃ o : Obj, A.heap[k]? = some o ∧ o.isWalk = true) → ∀ k, row = some k → m ≤ k ∧ ∃ o : Obj, A.heap[k]? = some o ∧ o.isCells = false :=
    fun h k e => by obtain ⟨hk, o, ho, hw⟩ := h k e; exact ⟨by omega, o, ho, Obj.not_cells_of_walk hw⟩
  refine ⟨m + 1, [{ target := .collected m, args := #[] }], W1, { target := .fn (.func gf) lb, args := #[.func (.yield (m + 1)) #[] #[]] }, W1, gf, #[.func (.yield (m + 1)) #[] #[]] ++ lb, W1, ?_, ?_, ?_, ?_, fun _ => h1, ?_⟩
  · have h := run_enterLoop_outer (P := P) (w := w) fn a.tmps ps assign body
    rw [hm] at h
    rw [h, ← hW1, hR]
  · simp only [resolve, hg]
    simp [go_sem]
  · intro f' hf'
    simp [Target.leads] at hf'
    subst hf'; exact hFg
  · simp [invoke, go_sem, eg]
  refine (hseq (m + 1) (fun pre W => I pre W ∧ TwoBk m (R .ready none) W) (fun pre W => ∃ c, Ix c pre W ∧ TwoBk m (R .done (some c)) W) W1 (hb0.trans (hbw.mono (by rw [← hm]; exact hb0.size)))
    (fun s A B row hs hgr hr => ⟨hI s A B row hs.1 hgr (noCells hr), hs.2.walks hgr hr⟩)
    (fun s A B row hs hgr hr => by obtain ⟨c, hc, ht⟩ := hs; exact ⟨c, hIx' c s A B row hc hgr (noCells hr), ht.walks hgr hr⟩)
    ?_ ⟨?_, hB1⟩).mono ?_
  · rintro pre x W ⟨hi, ht⟩ hd hlen
    have hy := run_yield (P := P) (args := encs x) ht.lp (by rw [hR]; exact hps x)
    rw [hR] at hy
    refine ⟨fn, _, assign, body, hy, roundIn_of_wpIn hfn (hassign _ pre x W _ hi hd ?_)⟩
    intro a' Wa hka hkpa hia hax
    have hta := ht.kept hka
    obtain ⟨Wb, hWb⟩ : ∃ Wb, Wa.putObj (m + 1) (.loop (R .busy none)) = Wb := ⟨_, rfl⟩
    have hbeg := run_beginRound (P := P) hta.lp (by rw [hR])
    have hbusy : ({ R .ready none with state := .busy } : Loop) = R .busy none := by rw [hR]
    rw [hbusy, hWb] at hbeg
    have htb : TwoBk m (R .busy none) Wb := by rw [← hWb]; exact hta.turn _
    have hib : I pre Wb := by rw [← hWb]; exact hI.putObj _ hia (by omega) hta.lp rfl
    have hab : Ax x a' Wb := by rw [← hWb]; exact (hAx' a').putObj (s := x) _ hax (by omega) hta.lp rfl
    have hkb : Kp W Wb := by rw [← hWb]; exact hKt hkpa (hKb _ _ _ _ (by omega) hta.lp rfl rfl)
    refine ⟨Wb, hbeg, wpIn_mono (hbody _ pre x a' Wb hib hab hlen) ?_⟩
    have fin : ∀ (jump : Option Code) (W3 : World), KeepsFrom m Wb W3 → (Instr.endRound (m + 1) jump).run P W3 = .ok (.bool jump.isNone) (W3.putObj (m + 1) (.loop (R (if jump.isNone then .ready else .done) jump))) ∧ TwoBk m (R .busy none) W3 := fun jump W3 hk => by
      have h3 := htb.kept hk
      have := run_endRound (P := P) jump h3.lp
      rw [hR] at this ⊢
      exact ⟨this, by rw [hR] at h3; exact h3⟩
    have leave : ∀ (c : Code) (W3 : World), KeepsFrom m Wb W3 → Ix c (pre ++ [x]) W3 → ∃ v w', (Instr.endRound (m + 1) (some c)).run P W3 = .ok v w' ∧ ((Ending.returned v = .returned (.bool true) ∧ (I (pre ++ [x]) w' ∧ TwoBk m (R .ready none) w') ∧ Kp W w') ∨ (Ending.returned v = .returned (.bool false) ∧ ∃ c, Ix c (pre ++ [x]) w' ∧ TwoBk m (R .done (some c)) w')) := fun c W3 hk hx => by
      obtain ⟨hr, h3⟩ := fin (some c) W3 hk
      exact ⟨_, _, hr, .inr ⟨rfl, c, (hIx' c).putObj _ hx (by omega) h3.lp rfl, h3.turn _⟩⟩
    intro e a3 W3 hp
    cases e with
    | normal =>
      obtain ⟨hk, hkp, hi3⟩ := hp
      obtain ⟨hr, h3⟩ := fin none W3 hk
      exact ⟨_, _, hr, .inl ⟨rfl, ⟨hI.putObj _ hi3 (by omega) h3.lp rfl, h3.turn _⟩, hKt hkb (hKt hkp (hKb _ _ _ _ (by omega) h3.lp rfl rfl))⟩⟩
    | ret => exact leave _ _ hp.1 hp.2
    | exit id => exact leave _ _ hp.1 hp.2
    | goto t => exact leave _ _ hp.1 hp.2
    | panic ch => exact hp.elim
    | outgrown => exact hp.elim
  · rw [← hW1]; exact hI.alloc _ (hI.alloc _ h0)
  · rintro e W2 ⟨⟨v, rfl⟩, (⟨xs, hS, hi, ht⟩ | ⟨pre, hSp, c, hi, ht⟩)⟩
    · have h := run_endLoop (P := P) ht.lp (by rw [hR]; simp)
      rw [hR] at h
      exact ⟨none, _, h, hdone m xs _ (Nat.le_refl _) hS (hI.putObj _ hi (by omega) ht.lp rfl) ((World.putObj_heap_other (by omega)).trans ht.dfr)⟩
    · have h := run_endLoop (P := P) ht.lp (by rw [hR]; simp)
      rw [hR] at h
      exact ⟨some c, _, h, hstop m c pre _ (Nat.le_refl _) hSp ((hIx' c).putObj _ hi (by omega) ht.lp rfl) ((World.putObj_heap_other (by omega)).trans ht.dfr)⟩
end Go.Proofs.YtckammgnmgkieaaGreat

/-
  Rows of k cells: literals, pieces, a store into one cell, appends in a drawn region.
-/
namespace Go.Proofs.YtckammgnmgkieaaGreat
set_option maxRecDepth 20000
open Go.RowKit Go.Shelf
set_option maxRecDepth 20000
set_option linter.unusedVariables false
set_option linter.unusedSimpArgs false

theorem slAt_blk {W : World} {g : Nat} {l : List Value} {T : TypeId} (h : W.heap[g]? = some (.cells l.toArray T)) : SlAt W (.slice (some ⟨g, 0, none⟩) l.length l.length) l := by
  refine ⟨_, _, rfl, Nat.le_refl _, (fun e => by cases e), .inr ⟨g, 0, rfl, kblock_lt h, fun j hj => ?_⟩⟩
  have := kcell h j l[j] (by simp)
  rw [Nat.zero_add]; exact this
theorem slK_blk {W : World} {g : Nat} {css : List (List Value)} {T : TypeId} (h : W.heap[g]? = some (.cells css.flatten.toArray T)) : SlK W (.slice (some ⟨g, 0, none⟩) css.length css.length) css := by
  refine ⟨_, _, rfl, Nat.le_refl _, (fun e => by cases e), .inr ⟨g, 0, rfl, kblock_lt h, fun j u hj => ?_⟩⟩
  have := kcell h j u (by simpa using hj)
  rw [Nat.zero_add]; exact this
theorem flatten_set (K t : Nat) (u : Value) (ht : t < K) : ∀ (css : List (List Value)), (∀ cs ∈ css, cs.length = K) → ∀ (k : Nat) (h : k < css.length), (css.set k (css[k].set t u)).flatten = css.flatten.set (k * K + t) u
  | [], _, k, h => by simp at h
  | c :: r, hk, 0, _ => by
    have hc := hk c (by simp)
    simp only [List.getElem_cons_zero, List.set_cons_zero, List.flatten_cons, Nat.zero_mul, Nat.zero_add]
    rw [List.set_append_left t u (by omega)]
  | c :: r, hk, k + 1, h => by
    have hc := hk c (by simp)
    have ih := flatten_set K t u ht r (fun cs hcs => hk cs (by simp [hcs])) k (by simpa using h)
    simp only [List.getElem_cons_succ, List.set_cons_succ, List.flatten_cons]
    rw [ih, Nat.add_mul, Nat.one_mul]
    rw [List.set_append_right ((k * K + K + t)) u (by omega)]
    congr 2
    omega
theorem OwnC.put {T : TypeId} {W : World} {base g n c : Nat} {css : List (List Value)} (h : OwnC 7 T W base (.slice (some ⟨g, 0, none⟩) n c) css) (hk : ∀ cs ∈ css, cs.length = 7) (k : Nat) (hlt : k < css.length) (t : Nat) (ht : t < 7) (u : Value) :
    OwnC 7 T (W.setCell ⟨g, k * 7 + t, none⟩ u) base (.slice (some ⟨g, 0, none⟩) n c) (css.set k (css[k].set t u)) := by
  obtain ⟨hl, h⟩ := h
  rcases h with ⟨e, _⟩ | ⟨g', cap, cur, e, hb, hg, hc, hm, hsz, htk⟩
  · cases e
  · cases e
    have hfl : ((css.set k (css[k].set t u)).flatMap fun cs => cs) = (css.flatMap fun cs => cs).set (k * 7 + t) u := by
      rw [flat_id, flat_id, flatten_set 7 t u ht css hk k hlt]
    refine ⟨by rw [hfl, List.length_set, List.length_set]; exact hl, .inr ⟨g, c, cur.setIfInBounds (k * 7 + t) u, by rw [List.length_set], hb, kset hg _ u, by rw [List.length_set]; exact hc, hm, by simpa using hsz, ?_⟩⟩
    rw [hfl, List.length_set, ← htk, Array.toList_setIfInBounds]
    rw [List.take_set]
theorem SlK.takeK {W : World} {a : Option Addr} {n c : Nat} {css : List (List Value)} (h : SlK W (.slice a n c) css) (k : Nat) (hk : k ≤ n) : SlK W (.slice a k c) (css.take k) := by
  obtain ⟨a', c', e, h1, h2, h3⟩ := h
  cases e
  have hl : (css.take k).length = k := by rw [List.length_take]; omega
  refine ⟨a, c, by rw [hl], by rw [hl]; omega, h2, ?_⟩
  rcases h3 with h3 | ⟨b, off, e, hlt, hc⟩
  · left; rw [h3]; simp
  · right
    refine ⟨b, off, e, hlt, fun j u hj => hc j u ?_⟩
    have hsplit : css.flatten = (css.take k).flatten ++ (css.drop k).flatten := by rw [← List.flatten_append, List.take_append_drop]
    rw [hsplit, List.getElem?_append_left (List.getElem?_eq_some_iff.1 hj).1]
    exact hj
theorem SlK.dropK {W : World} {b off n c : Nat} {css : List (List Value)} (h : SlK W (.slice (some ⟨b, off, none⟩) n c) css) (h7 : ∀ cs ∈ css, cs.length = 7) (k : Nat) (hk : k ≤ n) : SlK W (.slice (some ⟨b, off + k * 7, none⟩) (n - k) (c - k)) (css.drop k) := by
  obtain ⟨a', c', e, h1, h2, h3⟩ := h
  cases e
  have hl : (css.drop k).length = css.length - k := List.length_drop
  refine ⟨_, _, by rw [hl], by rw [hl]; omega, (fun e => by cases e), ?_⟩
  rcases h3 with h3 | ⟨b', off', e, hlt, hc⟩
  · left; rw [h3]; simp
  · cases e
    right
    refine ⟨b, off + k * 7, rfl, hlt, fun j u hj => ?_⟩
    rw [Nat.add_assoc]
    refine hc _ _ ?_
    have hsplit : css.flatten = (css.take k).flatten ++ (css.drop k).flatten := by rw [← List.flatten_append, List.take_append_drop]
    have hz : (css.take k).flatten.length = k * 7 := by
      rw [flat_len _ (fun cs hcs => h7 cs (List.mem_of_mem_take hcs)), List.length_take]; congr 1; omega
    rw [hsplit, List.getElem?_append_right (by omega), hz, Nat.add_sub_cancel_left]
    exact hj
theorem wp_append_slk {S T : TypeId} {k bytes : Nat} {o : Oper} {a : Act} {K : Act → World → Prop} {Q : Exit → Act → World → Prop} (W : World) (s x : Operand) (hE : ElemK k T S bytes) (hk0 : 0 < k)
    (ho : o.op = .call { callee := .builtin .append, args := #[s, x], argTypes := #[S, S] })
    (base : Nat) (v : Value) (xs : List (List Value)) (hs : a.eval s = v) (hown : OwnC k T W base v xs)
    (src : Value) (ys : List (List Value)) (hx : a.eval x = src) (hsrc : SlK W src ys) (hyk : ∀ cs ∈ ys, cs.length = k) (hy1 : ∀ cs ∈ ys, ∀ u ∈ cs, u.oneCell' = true)
    (hbase : base ≤ W.heap.size) (hk : xs.length + ys.length ≤ maxLen) (hk2 : (xs.length + ys.length) * bytes ≤ 140737488355328)
    (h : ∀ v' w', OwnC k T w' base v' (xs ++ ys) → W.grownBy w' v.ownBlock → K (a.put o.dst v') w') :
    o.wp Tryz.prog a W K Q := by
  obtain ⟨ht, i, z, hi, hz, hz1, hz2, hzc⟩ := hE
  obtain ⟨a0, c0, rfl, h1, h2, h3⟩ := hsrc
  have hlen := flat_len ys hyk
  cases a0 with
  | none =>
    have e3 := h2 rfl
    subst e3
    have e4 : ys = [] := List.eq_nil_of_length_eq_zero (by omega)
    subst e4
    have hrun := run_append_owned_none (P := Tryz.prog) (w := W) base S o.type _ i k ht hi v _ _ hown
    have hK := h v W (by rw [List.append_nil]; exact hown) ⟨rfl, rfl, rfl, Nat.le_refl _, fun _ _ _ => rfl⟩
    unfold Oper.wp
    simp [execOp, ho, resolve, invoke, builtin, hs, hx, hrun, Result.andThen]
    exact hK
  | some ad =>
    have hcell : ∀ j u, ys.flatten[j]? = some u → W.cell? (ad.add j) = some u := by
      intro j u hj
      rcases h3 with h3 | ⟨b, off, ea, _, hc⟩
      · subst h3; simp at hj
      · cases ea; rw [Addr.add_lit]; exact hc j u hj
    refine wp_append_own W s x S ho base _ i z k bytes ht hi hz hz1 hz2 hzc hk0 v xs.length (xs.flatMap fun cs => cs) hs hown ad ys.length c0 ys.flatten hx hlen hcell (by intro u hu; obtain ⟨y, hy, hu⟩ := List.mem_flatten.1 hu; exact hy1 y hy u hu) hk hk2 hbase ?_
    intro v' w' g1 g2 _
    refine h v' w' ?_ g2
    unfold OwnC OwnK
    rw [List.length_append, List.flatMap_append, flat_id ys]
    exact g1
theorem step_append_slk {S T : TypeId} {k bytes : Nat} {ops : Array Oper} {o : Oper} {a : Act} {K : Act → World → Prop} {Q : Exit → Act → World → Prop} {E : Prop} (W : World) (hgd : o.guard = none) (s x : Operand) (hE : ElemK k T S bytes) (hk0 : 0 < k)
    (ho : o.op = .call { callee := .builtin .append, args := #[s, x], argTypes := #[S, S] })
    (base : Nat) (v : Value) (xs : List (List Value)) (hs : a.eval s = v) (hown : OwnC k T W base v xs)
    (src : Value) (ys : List (List Value)) (hx : a.eval x = src) (hsrc : SlK W src ys) (hyk : ∀ cs ∈ ys, cs.length = k) (hy1 : ∀ cs ∈ ys, ∀ u ∈ cs, u.oneCell' = true)
    (hbase : base ≤ W.heap.size) (hk : xs.length + ys.length ≤ maxLen) (hk2 : (xs.length + ys.length) * bytes ≤ 140737488355328)
    (h : ∀ v' w', OwnC k T w' base v' (xs ++ ys) → W.grownBy w' v.ownBlock → K (a.put o.dst v') w') :
    if Region.wanted o (yielded ops a.tmps) = true then Oper.wp Tryz.prog o a W K Q else E := by
  have hw : Region.wanted o (yielded ops a.tmps) = true := by simp [Region.wanted, hgd]
  rw [if_pos hw]
  exact wp_append_slk W s x hE hk0 ho base v xs hs hown src ys hx hsrc hyk hy1 hbase hk hk2 h
end Go.Proofs.YtckammgnmgkieaaGreat

