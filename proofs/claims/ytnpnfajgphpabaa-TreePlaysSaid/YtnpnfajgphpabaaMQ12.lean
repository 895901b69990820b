/-
  As SeqT, where the iterator writes cells of its own: what lies between two rounds abides the turn of a block whose object is one of Y; the body is told a fact D of what is yielded.
-/
import Derived.Test.YtnpnfajgphpabaaMQ21
import Derived.Test.YtnpnfajgphpabaaMQ39
import Derived.OrdersHeld
import Derived.OrdersIn
import Derived.RangeFuncCalls
namespace Go.Proofs.Ytnpnfajgphpabaa
set_option linter.unusedVariables false
set_option linter.unusedSimpArgs false
open Go.RowKit Go.Shelf

def OwnY (Y : Obj → Prop) {β : Type} (B : Nat) (I : β → World → Prop) : Prop :=
  ∀ s W W' row, I s W → W.grownBy W' row → (∀ r, row = some r → B ≤ r ∧ ∃ o : Obj, W.heap[r]? = some o ∧ Y o) → I s W'
theorem OwnY.mono {Y : Obj → Prop} {β : Type} {B B' : Nat} {I : β → World → Prop} (h : OwnY Y B I) (hB : B ≤ B') : OwnY Y B' I := fun s W W' row hs hg hr => h s W W' row hs hg (fun r e => ⟨Nat.le_trans hB (hr r e).1, (hr r e).2⟩)
theorem OwnY.t {Y : Obj → Prop} {β : Type} {B : Nat} {I : β → World → Prop} (h : OwnY Y B I) (hY : ∀ o, Plain o → Y o) : OwnT B I := fun s W W' row hs hg hr => h s W W' row hs hg (fun r e => by obtain ⟨a, o, b, c⟩ := hr r e; exact ⟨a, o, b, hY o c⟩)
theorem OwnY.putObj {Y : Obj → Prop} {β : Type} {B : Nat} {I : β → World → Prop} (h : OwnY Y B I) {s : β} {W : World} {l : Nat} {o : Obj} (o' : Obj) (hs : I s W) (hB : B ≤ l) (hl : W.heap[l]? = some o) (ho : Y o) : I s (W.putObj l o') :=
  h s W _ (some l) hs (grownBy_putObj' W l o') (fun r e => by cases e; exact ⟨hB, o, hl, ho⟩)
theorem OwnY.alloc {Y : Obj → Prop} {β : Type} {B : Nat} {I : β → World → Prop} (h : OwnY Y B I) {s : β} {W : World} (o : Obj) (hs : I s W) : I s (W.alloc o) :=
  h s W _ none hs (World.grownBy_alloc W o none) (fun r e => by cases e)
def SeqStopsU (Y : Obj → Prop) {α : Type} (F : Fence) (n : Nat) (P : Program) (g : Nat) (lb : Array Value) (encs : α → Array Value) (D : α → World → Prop) (Kp : World → World → Prop) (S Sp : List α → Prop) (N : Nat) (w : World) : Prop :=
  ∀ (l : Nat) (J Jx : List α → World → Prop) (W : World), Below w.heap.size w W → OwnY Y W.heap.size J → OwnY Y W.heap.size Jx →
    (∀ pre x W1, J pre W1 → D x W1 → pre.length < N → YieldAt F (n - 1) P l (encs x) W1 fun e W' =>
      (e = .returned (.bool true) ∧ J (pre ++ [x]) W' ∧ Kp W1 W' ∧ KeepsT W.heap.size W1 W') ∨ (e = .returned (.bool false) ∧ Jx (pre ++ [x]) W' ∧ KeepsT W.heap.size W1 W')) →
    J [] W →
    CallsIn F n P g (#[.func (.yield l) #[] #[]] ++ lb) W fun e W' => (∃ v, e = .returned v) ∧ ((∃ xs, S xs ∧ J xs W') ∨ (∃ pre, Sp pre ∧ Jx pre W'))

variable {F : Fence} {n : Nat} {P : Program}

theorem wpIn_rangeFunc_U {Y : Obj → Prop} (hYP : ∀ o, Plain o → Y o) {α : Type} {g : Operand} {ps : Array Tmp} {assign body : Code} {Q : Exit → Act → World → Prop} {a : Act} {w : World}
    (hro : F.round = none) (h1 : 1 ≤ n) {gf : Nat} {lb : Array Value} (hg : a.eval g = .func (.func gf) #[] lb) (hFg : F.fn gf) (eg : ∀ args w, (callFunc gf args).run P w = .ok (.enter gf args) w)
    {encs : α → Array Value} {D : α → World → Prop} {Kp : World → World → Prop} {S Sp : List α → Prop} {N : Nat} {w0 : World} (hseq : SeqStopsU Y F (n - 1) P gf lb encs D Kp S Sp N w0) (hDP : ∀ x (W : World) (l : Nat) (o o' : Obj), w.heap.size ≤ l → W.heap[l]? = some o → Plain o → D x W → D x (W.putObj l o'))
    (hKt : ∀ {A B C : World}, Kp A B → Kp B C → Kp A C) (hKb : ∀ (W : World) (l : Nat) (o o' : Obj), w.heap.size ≤ l → W.heap[l]? = some o → o.isCells = false → o.isWalk = false → Kp W (W.putObj l o')) (hb0 : Below w0.heap.size w0 w) (hps : ∀ x, (encs x).size = ps.size)
    (I : List α → World → Prop) (Ix : Code → List α → World → Prop) (hI : OwnY Y w.heap.size I) (hIx : ∀ c, OwnY Y w.heap.size (Ix c)) (h0 : I [] w) (a₁ : α → Act)
    (hassign : ∀ (l : Nat) (x : α) (W : World) (K : Act → World → Prop), K (a₁ x) W →
      assign.wpIn (F.inRound l) (n - 1 - 1) P (Exit.then K (fun _ _ _ => False)) { tmps := (ps.zip (encs x)).foldl (fun t (p, v) => t.setIfInBounds p v) a.tmps, defers := [] } W)
    (hbody : ∀ (l : Nat) (pre : List α) (x : α) (W : World), w.heap.size ≤ l → (∃ r, W.heap[l]? = some (.loop r)) → I pre W → D x W → pre.length < N → body.wpIn (F.inRound l) (n - 1 - 1) P (ownPostT w.heap.size Kp I Ix (pre ++ [x]) W) (a₁ x) W)
    (hdone : ∀ (d : Nat) (xs : List α) (W : World), w.heap.size ≤ d → S xs → I xs W → W.heap[d]? = some (.deferred (some [])) → Q .normal { a with defers := { target := .collected d, args := #[] } :: a.defers } W)
    (hstop : ∀ (d : Nat) (c : Code) (pre : List α) (W : World), w.heap.size ≤ d → Sp pre → Ix c pre W → W.heap[d]? = some (.deferred (some [])) → c.wpIn F n P Q { a with defers := { target := .collected d, args := #[] } :: a.defers } W) :
    (Code.rangeFunc g ps assign body).wpIn F n P Q a w := by
  refine wpIn_rangeFunc fun fn hfn => ?_
  rw [hro]
  obtain ⟨m, hm⟩ : ∃ m, w.heap.size = m := ⟨_, rfl⟩
  obtain ⟨R, hR⟩ : ∃ R : LoopState → Option Code → Loop, R = fun st pe => { state := st, pending := pe, fn, tmps := a.tmps, params := ps, assign, body, defers := m } := ⟨_, rfl⟩
  obtain ⟨W1, hW1⟩ : ∃ W1, (w.alloc (.deferred (some []))).alloc (.loop (R .ready none)) = W1 := ⟨_, rfl⟩
  have hsz : W1.heap.size = m + 2 := by rw [← hW1]; simp [hm]
  have hB1 : TwoT m (R .ready none) W1 := by
    refine ⟨?_, ?_⟩
    · have h := World.alloc_heap_new (w.alloc (.deferred (some []))) (.loop (R .ready none))
      rw [World.size_alloc, hm, hW1] at h; exact h
    · rw [← hW1, ← hm]; exact (Below.heap_alloc _ _ _ (by simp)).trans (World.alloc_heap_new w _)
  have hbw : Below m w W1 := by rw [← hW1, ← hm]; exact ((Below.refl _ w).alloc (Nat.le_refl _) _).alloc (by simp) _
  rw [hm] at hI hKb hDP hbody hdone hstop
  have hIx' : ∀ c, OwnY Y m (Ix c) := fun c => by rw [← hm]; exact hIx c
  have up : ∀ {A : World} {row : Option Nat}, (∀ k, row = some k → W1.heap.size ≤ k ∧ ∃ o : Obj, A.heap[k]? = some o ∧ Y o) → ∀ k, row = some k → m ≤ k ∧ ∃ o : Obj, A.heap[k]? = some o ∧ Y o :=
    fun h k e => ⟨by have := (h k e).1; omega, (h k e).2⟩
  have two : ∀ {A : World} {row : Option Nat}, (∀ k, row = some k → W1.heap.size ≤ k ∧ ∃ o : Obj, A.heap[k]? = some o ∧ Y o) → ∀ k, row = some k → m + 2 ≤ k :=
    fun h k e => by have := (h k e).1; omega
  refine ⟨m + 1, [{ target := .collected m, args := #[] }], W1, { target := .fn (.func gf) lb, args := #[.func (.yield (m + 1)) #[] #[]] }, W1, gf, #[.func (.yield (m + 1)) #[] #[]] ++ lb, W1, ?_, ?_, ?_, ?_, fun _ => h1, ?_⟩
  · have h := run_enterLoop_outer (P := P) (w := w) fn a.tmps ps assign body
    rw [hm] at h
    rw [h, ← hW1, hR]
  · simp only [resolve, hg]
    simp [go_sem]
  · intro f' hf'
    simp [Target.leads] at hf'
    subst hf'; exact hFg
  · simp [invoke, go_sem, eg]
  refine (hseq (m + 1) (fun pre W => I pre W ∧ TwoT m (R .ready none) W) (fun pre W => ∃ c, Ix c pre W ∧ TwoT m (R .done (some c)) W) W1 (hb0.trans (hbw.mono (by rw [← hm]; exact hb0.size)))
    (fun s A B row hs hgr hr => ⟨hI s A B row hs.1 hgr (up hr), hs.2.grown hgr (two hr)⟩)
    (fun s A B row hs hgr hr => by obtain ⟨c, hc, ht⟩ := hs; exact ⟨c, hIx' c s A B row hc hgr (up hr), ht.grown hgr (two hr)⟩)
    ?_ ⟨?_, hB1⟩).mono ?_
  · rintro pre x W ⟨hi, ht⟩ hd hlen
    have hy := run_yield (P := P) (args := encs x) ht.lp (by rw [hR]; exact hps x)
    rw [hR] at hy
    refine ⟨fn, _, assign, body, hy, roundIn_of_wpIn hfn (hassign _ x W _ ?_)⟩
    obtain ⟨Wb, hWb⟩ : ∃ Wb, W.putObj (m + 1) (.loop (R .busy none)) = Wb := ⟨_, rfl⟩
    have hbeg := run_beginRound (P := P) ht.lp (by rw [hR])
    have hbusy : ({ R .ready none with state := .busy } : Loop) = R .busy none := by rw [hR]
    rw [hbusy, hWb] at hbeg
    have htb : TwoT m (R .busy none) Wb := by rw [← hWb]; exact ht.turn _
    have hib : I pre Wb := by rw [← hWb]; exact hI.putObj _ hi (by omega) ht.lp (hYP _ ⟨rfl, rfl⟩)
    have hdb : D x Wb := by rw [← hWb]; exact hDP x W _ _ _ (by omega) ht.lp ⟨rfl, rfl⟩ hd
    have hkb : Kp W Wb := by rw [← hWb]; exact hKb _ _ _ _ (by omega) ht.lp rfl rfl
    refine ⟨Wb, hbeg, wpIn_mono (hbody _ pre x Wb (by omega) ⟨_, htb.lp⟩ hib hdb hlen) ?_⟩
    have fin : ∀ (jump : Option Code) (W3 : World), KeepsT m Wb W3 → (Instr.endRound (m + 1) jump).run P W3 = .ok (.bool jump.isNone) (W3.putObj (m + 1) (.loop (R (if jump.isNone then .ready else .done) jump))) ∧ TwoT m (R .busy none) W3 := fun jump W3 hk => by
      have h3 := htb.kept hk
      have := run_endRound (P := P) jump h3.lp
      rw [hR] at this ⊢
      exact ⟨this, by rw [hR] at h3; exact h3⟩
    have hkw : ∀ (o : Obj) (W3 : World), KeepsT m Wb W3 → KeepsT W1.heap.size W (W3.putObj (m + 1) o) := fun o W3 hk => by
      rw [hsz]
      have h1 : KeepsT (m + 2) W Wb := by rw [← hWb]; exact KeepsT.of_put _ (by omega)
      exact (h1.trans (hk.mono (by omega))).put _ (by omega)
    have leave : ∀ (c : Code) (W3 : World), KeepsT m Wb W3 → Ix c (pre ++ [x]) W3 → ∃ v w', (Instr.endRound (m + 1) (some c)).run P W3 = .ok v w' ∧ ((Ending.returned v = .returned (.bool true) ∧ (I (pre ++ [x]) w' ∧ TwoT m (R .ready none) w') ∧ Kp W w' ∧ KeepsT W1.heap.size W w') ∨ (Ending.returned v = .returned (.bool false) ∧ (∃ c, Ix c (pre ++ [x]) w' ∧ TwoT m (R .done (some c)) w') ∧ KeepsT W1.heap.size W w')) := fun c W3 hk hx => by
      obtain ⟨hr, h3⟩ := fin (some c) W3 hk
      exact ⟨_, _, hr, .inr ⟨rfl, ⟨c, (hIx' c).putObj _ hx (by omega) h3.lp (hYP _ ⟨rfl, rfl⟩), h3.turn _⟩, hkw _ W3 hk⟩⟩
    intro e a3 W3 hp
    cases e with
    | normal =>
      obtain ⟨hk, hkp, hi3⟩ := hp
      obtain ⟨hr, h3⟩ := fin none W3 hk
      exact ⟨_, _, hr, .inl ⟨rfl, ⟨hI.putObj _ hi3 (by omega) h3.lp (hYP _ ⟨rfl, rfl⟩), h3.turn _⟩, hKt hkb (hKt hkp (hKb _ _ _ _ (by omega) h3.lp rfl rfl)), hkw _ W3 hk⟩⟩
    | ret => exact leave _ _ hp.1 hp.2
    | exit id => exact leave _ _ hp.1 hp.2
    | goto t => exact leave _ _ hp.1 hp.2
    | panic ch => exact hp.elim
    | outgrown => exact hp.elim
  · rw [← hW1]; exact hI.alloc _ (hI.alloc _ h0)
  · rintro e W2 ⟨⟨v, rfl⟩, (⟨xs, hS, hi, ht⟩ | ⟨pre, hSp, c, hi, ht⟩)⟩
    · have h := run_endLoop (P := P) ht.lp (by rw [hR]; simp)
      rw [hR] at h
      exact ⟨none, _, h, hdone m xs _ (Nat.le_refl _) hS (hI.putObj _ hi (by omega) ht.lp (hYP _ ⟨rfl, rfl⟩)) ((World.putObj_heap_other (by omega)).trans ht.dfr)⟩
    · have h := run_endLoop (P := P) ht.lp (by rw [hR]; simp)
      rw [hR] at h
      exact ⟨some c, _, h, hstop m c pre _ (Nat.le_refl _) hSp ((hIx' c).putObj _ hi (by omega) ht.lp (hYP _ ⟨rfl, rfl⟩)) ((World.putObj_heap_other (by omega)).trans ht.dfr)⟩
end Go.Proofs.Ytnpnfajgphpabaa

/-
  A region that draws its order, in a round of a range over a function: it may be walked as in the open (under S, loads first), if it defers nothing and ends as it should.
-/
namespace Go.Proofs.Ytnpnfajgphpabaa
set_option linter.unusedVariables false
set_option linter.unusedSimpArgs false
open Go.RowKit Go.Shelf
/-- Q at the plain end, nothing else. -/
def OnlyN (Q : Exit → Act → World → Prop) : Exit → Act → World → Prop
  | .normal, a, w => Q .normal a w
  | _, _, _ => False
def isDefer : Op → Bool
  | .defer _ => true
  | _ => false
def noDefer (ops : Array Oper) : Bool := ops.toList.all fun o => !isDefer o.op
theorem noDefer_spec {ops : Array Oper} (h : noDefer ops = true) {i : Nat} {o : Oper} (ho : ops[i]? = some o) (c : _) : o.op ≠ .defer c := fun e => by
  unfold noDefer at h
  rw [List.all_eq_true] at h
  have hm : o ∈ ops.toList := by
    rw [← Array.getElem?_toList] at ho
    exact List.mem_of_getElem? ho
  have := h o hm
  rw [e] at this
  simp [isDefer] at this
section
variable {P : Program} {md : Region.Mode} {ops : Array Oper} {Q : Exit → Act → World → Prop}
theorem wpOpIn_round {l n i : Nat} {K K' : Act → World → Prop} {a : Act} {w : World} (hd : noDefer ops = true) (hK : ∀ a w, K a w → K' a w) (h : wpOp P ops (OnlyN Q) i K a w) : wpOpIn (Fence.wide.inRound l) n P ops Q i K' a w := by
  unfold wpOp at h
  unfold wpOpIn
  cases ho : ops[i]? with
  | none => simp only [ho] at h ⊢; exact hK _ _ h
  | some o =>
    simp only [ho] at h ⊢
    by_cases hw : Region.wanted o (yielded ops a.tmps) = true
    · rw [if_pos hw] at h ⊢
      rcases h with h | ⟨_, a', w', h⟩
      · refine ⟨fun _ _ => trivial, ?_⟩
        rw [Oper.semAt_eq _ _ _ (fun c => noDefer_spec hd ho c)]
        unfold Oper.wp at h
        have hnd : (Fence.wide.inRound l).depth.isSome = true → 1 ≤ n := fun e => by cases e
        generalize (execOp a.eval o).run P w = r at h
        cases r with
        | ok x w' =>
          cases x <;> simp only [Oper.upon, Oper.uponIn] at h ⊢
          case value v => exact hK _ _ h
          case skip => exact hK _ _ h
          case defer d => exact hK _ _ h
          case enter f args =>
            refine ⟨hnd, CallsIn.inRound l (callsIn_wide.2 (Calls.mono h fun e w'' he => ?_))⟩
            cases e with
            | returned v => exact hK _ _ he
            | panicked c => exact (he : False).elim
            | outgrown => obtain ⟨_, _, q⟩ := he; exact (q : False).elim
          case row row args =>
            refine ⟨hnd, ?_⟩
            intro b cs hb
            obtain ⟨v, w'', q, s⟩ := h b cs
            exact ⟨v, w'', hK _ _ q, stepsIn_wide.2 s⟩
        | halt x w' =>
          cases x <;> simp only [Oper.upon, Oper.uponIn] at h ⊢
          case panic v => exact (h : False).elim
      · exact (h : False).elim
    · rw [if_neg hw] at h ⊢
      exact ⟨fun _ _ => trivial, hK _ _ h⟩
theorem wpAnyIn_round {l n : Nat} (hd : noDefer ops = true) : ∀ (fuel : Nat) (listed : Array Bool) (a : Act) (w : World), wpAny P md ops (OnlyN Q) fuel listed a w → wpAnyIn (Fence.wide.inRound l) n P md ops Q fuel listed a w
  | 0, _, _, _, h => ⟨h.1, h.2⟩
  | fuel + 1, _, _, _, h => ⟨h.1, fun i hi => wpOpIn_round hd (fun a w hk => wpAnyIn_round hd fuel _ a w hk) (h.2 i hi)⟩
/-- The beginning, in a round. -/
theorem wpIn_region_round {l n id : Nat} {a : Act} {w : World} {S : World → Prop} (hm : P.follows .mixedOrders = true) (hd : noDefer ops = true) (hS : S w.drew)
    (h : S w.drew → wpAnyH P .any ops (OnlyN Q) S ops.size (Array.replicate ops.size false) a w.drew) : (Code.region id ops true).wpIn (Fence.wide.inRound l) n P Q a w :=
  wpIn_region_any hm (wpAnyIn_round hd _ _ _ _ (wpAny_of_held _ _ _ _ (h hS)))
end
end Go.Proofs.Ytnpnfajgphpabaa

