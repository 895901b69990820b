/-
  Package name's contracts in one spelling, for laws: arguments that read as names, answers named by equations.
-/
import Derived.Test.YtnpnfajgphpabaaMQ29
import Derived.Test.YtnpnfajgphpabaaMQ40
import Derived.Test.YtnpnfajgphpabaaMQ33
import Derived.Test.YtnpnfajgphpabaaMQ37
import Derived.Test.YtnpnfajgphpabaaMQ39
import Derived.RangeFuncNested
import Derived.Test.YtnpnfajgphpabaaMQ43
import Derived.Test.YtnpnfajgphpabaaMQ28
import Derived.Maps.AppendAt
import Derived.Maps.OwnIn
import Derived.StillTail
import Derived.StillTailTactics
import Derived.Deep.RegionHeld3
import Derived.Deep.RegionHeldLaw
import Derived.Deep.AppendLies
import Derived.Deep.DrawnRows
namespace Go.Proofs.Ytnpnfajgphpabaa
set_option linter.unusedVariables false
set_option linter.unusedSimpArgs false
set_option maxRecDepth 20000
open Go.RowKit Go.Shelf

theorem NmAt.alloc {W : World} {v : Value} {xs : Nm} (h : NmAt W v xs) (o : Obj) : NmAt (W.alloc o) v xs := h.below ((Below.refl _ _).alloc (Nat.le_refl _) _)

theorem nm_lit (W : World) (ys : Nm) (cs : List Value) (k g : Nat) (hc : cs = ys.map strV) (hk : ys.length = k) (hm : k ≤ 1048576) (hg : W.heap.size = g) :
    NmAt (W.alloc (.cells cs.toArray 9)) (.slice (some ⟨g, 0, none⟩) k k) ys := by
  subst hc hk hg
  exact (OwnG.lit (T := 9) (enc := strV) W W.heap.size (Nat.le_refl _) ys (by unfold maxLen; omega)).nmAt
theorem nmOK_of {xs : Nm} (h : fewN xs = true) : NmOK xs := fewN_ok h

def NmRes (xs : Nm) (k : Nat) (w : World) (e : Ending) (w' : World) : Prop := ∃ a c, e = .returned (.slice a k c) ∧ NmAt w' (.slice a k c) xs ∧ Below w.heap.size w w'
def NmRes2 (xs : Nm) (k : Nat) (er : Int) (w : World) (e : Ending) (w' : World) : Prop := ∃ a c, e = .returned (.tuple #[.slice a k c, .int .i64 er]) ∧ NmAt w' (.slice a k c) xs ∧ Below w.heap.size w w'
theorem nmRes_of {xs : Nm} {k : Nat} {w w' : World} {v : Value} (hk : xs.length = k) (ho : OwnG 9 strV w' w.heap.size v xs) (hb : Below w.heap.size w w') : NmRes xs k w (.returned v) w' := by
  subst hk
  obtain ⟨a, c, rfl⟩ := ho.shape
  exact ⟨a, c, rfl, ho.nmAt, hb⟩
theorem nmRes2_of {xs : Nm} {k : Nat} {er : Int} {w w' : World} {v : Value} (hk : xs.length = k) (ho : OwnG 9 strV w' w.heap.size v xs) (hb : Below w.heap.size w w') : NmRes2 xs k er w (.returned (.tuple #[v, .int .i64 er])) w' := by
  subst hk
  obtain ⟨a, c, rfl⟩ := ho.shape
  exact ⟨a, c, rfl, ho.nmAt, hb⟩

theorem kn_NUnder (v u : Value) (n z : Nm) (r : Bool) (h : underN n z = r) (w : World) (hA : NmAt w v n) (hU : NmAt w u z) (h1 : NmOK n) (h2 : NmOK z) :
    Calls Try.prog 29 #[v, u] w fun e w' => e = .returned (.bool r) ∧ Below w.heap.size w w' := by
  subst h; exact name_Under v u n z w hA.1 hU.1 h1 h2
theorem kn_NChild (s : ByteArray) (v : Value) (n l : Nm) (k : Nat) (h : s.data.toList :: n = l) (hk : l.length = k) (w : World) (hA : NmAt w v n) (h1 : NmOK n) :
    Calls Try.prog 53 #[.string s, v] w (NmRes l k w) := by
  subst h; refine (name_Child s v n w hA.1 hA.2 h1).mono ?_
  rintro e w' ⟨v', rfl, ho, hb⟩; exact nmRes_of hk ho hb
theorem kn_NFold (v : Value) (n l : Nm) (k : Nat) (h : foldN n = l) (hk : l.length = k) (w : World) (hA : NmAt w v n) (h1 : NmOK n) :
    Calls Try.prog 38 #[v] w (NmRes l k w) := by
  subst h; refine (name_Fold v n w hA.1 h1).mono ?_
  rintro e w' ⟨v', rfl, ho, hb⟩; exact nmRes_of hk ho hb
end Go.Proofs.Ytnpnfajgphpabaa

/-
  A range over an iterator that is itself written as a range over another, or whose body makes maps: what lies between two rounds abides the turn of a block that is neither cells nor a walk's object.
-/
namespace Go.Proofs.Ytnpnfajgphpabaa
set_option linter.unusedVariables false
set_option linter.unusedSimpArgs false
open Go.RowKit Go.Shelf

/-- A block that a loop's own book-keeping turns. -/
def Plain (o : Obj) : Prop := o.isCells = false ∧ o.isWalk = false
def OwnT {β : Type} (B : Nat) (I : β → World → Prop) : Prop :=
  ∀ s W W' row, I s W → W.grownBy W' row → (∀ r, row = some r → B ≤ r ∧ ∃ o : Obj, W.heap[r]? = some o ∧ Plain o) → I s W'
theorem OwnT.mono {β : Type} {B B' : Nat} {I : β → World → Prop} (h : OwnT B I) (hB : B ≤ B') : OwnT B' I := fun s W W' row hs hg hr => h s W W' row hs hg (fun r e => ⟨Nat.le_trans hB (hr r e).1, (hr r e).2⟩)
theorem OwnT.putObj {β : Type} {B : Nat} {I : β → World → Prop} (h : OwnT B I) {s : β} {W : World} {l : Nat} {o : Obj} (o' : Obj) (hs : I s W) (hB : B ≤ l) (hl : W.heap[l]? = some o) (ho : Plain o) : I s (W.putObj l o') :=
  h s W _ (some l) hs (grownBy_putObj' W l o') (fun r e => by cases e; exact ⟨hB, o, hl, ho⟩)
theorem OwnT.alloc {β : Type} {B : Nat} {I : β → World → Prop} (h : OwnT B I) {s : β} {W : World} (o : Obj) (hs : I s W) : I s (W.alloc o) :=
  h s W _ none hs (World.grownBy_alloc W o none) (fun r e => by cases e)
theorem OwnT.and {β : Type} {B : Nat} {I I' : β → World → Prop} (h : OwnT B I) (h' : OwnT B I') : OwnT B (fun s W => I s W ∧ I' s W) := fun s W W' row hs hg hr => ⟨h s W W' row hs.1 hg hr, h' s W W' row hs.2 hg hr⟩
theorem OwnT.pure {β : Type} (B : Nat) (p : β → Prop) : OwnT B (fun s (_ : World) => p s) := fun _ _ _ _ hs _ _ => hs
theorem OwnFrom.t {β : Type} {B : Nat} {I : β → World → Prop} (h : OwnFrom B I) : OwnT B I := fun s W W' row hs hg hr => h s W W' row hs hg (fun r e => by obtain ⟨a, o, b, c⟩ := hr r e; exact ⟨a, o, b, c.1⟩)
/-- The body's word. -/
structure KeepsT (B : Nat) (W W' : World) : Prop where
  size : W.heap.size ≤ W'.heap.size
  same : ∀ (k : Nat) (o : Obj), B ≤ k → W.heap[k]? = some o → Plain o → W'.heap[k]? = some o
theorem KeepsFrom.t {B : Nat} {W W' : World} (h : KeepsFrom B W W') : KeepsT B W W' := ⟨h.size, fun k o a b c => h.same k o a b c.1⟩
theorem KeepsOthers.t {W W' : World} (h : KeepsOthers W W') (B : Nat) : KeepsT B W W' := KeepsFrom.t (h.from B)
theorem KeepsT.refl (B : Nat) (W : World) : KeepsT B W W := ⟨Nat.le_refl _, fun _ _ _ h _ => h⟩
theorem KeepsT.trans {B : Nat} {X Y Z : World} (h : KeepsT B X Y) (k : KeepsT B Y Z) : KeepsT B X Z := ⟨Nat.le_trans h.size k.size, fun i o hB hi ho => k.same i o hB (h.same i o hB hi ho) ho⟩
theorem KeepsT.mono {B B' : Nat} {X Y : World} (h : KeepsT B X Y) (hB : B ≤ B') : KeepsT B' X Y := ⟨h.size, fun k o a b c => h.same k o (Nat.le_trans hB a) b c⟩
theorem KeepsT.put {B l : Nat} {X Y : World} (h : KeepsT B X Y) (o : Obj) (hl : l < B) : KeepsT B X (Y.putObj l o) :=
  ⟨by have := h.size; simpa using this, fun k o' a b c => (World.putObj_heap_other (by omega)).trans (h.same k o' a b c)⟩
theorem KeepsT.of_put {B l : Nat} {W : World} (o : Obj) (hl : l < B) : KeepsT B W (W.putObj l o) := (KeepsT.refl B W).put o hl
theorem KeepsT.of_grownBy {B : Nat} {W W' : World} {row : Option Nat} (hg : W.grownBy W' row) (hrow : ∀ j o, row = some j → W.heap[j]? = some o → ¬ Plain o) : KeepsT B W W' :=
  ⟨hg.size, fun k o hB hk ho => (hg.block k (Array.getElem?_eq_some_iff.1 hk).1 (fun e => hrow k o e.symm hk ho)).trans hk⟩
theorem KeepsT.of_below {B : Nat} {W W' : World} (h : Below W.heap.size W W') : KeepsT B W W' := ⟨h.size, fun k o _ hk _ => (h.block k (Array.getElem?_eq_some_iff.1 hk).1).trans hk⟩

def SeqStopsT {α : Type} (F : Fence) (n : Nat) (P : Program) (g : Nat) (lb : Array Value) (encs : α → Array Value) (Kp : World → World → Prop) (S Sp : List α → Prop) (N : Nat) (w : World) : Prop :=
  ∀ (l : Nat) (J Jx : List α → World → Prop) (W : World), Below w.heap.size w W → OwnT W.heap.size J → OwnT W.heap.size Jx →
    (∀ pre x W1, J pre W1 → pre.length < N → YieldAt F (n - 1) P l (encs x) W1 fun e W' =>
      (e = .returned (.bool true) ∧ J (pre ++ [x]) W' ∧ Kp W1 W' ∧ KeepsT W.heap.size W1 W') ∨ (e = .returned (.bool false) ∧ Jx (pre ++ [x]) W' ∧ KeepsT W.heap.size W1 W')) →
    J [] W →
    CallsIn F n P g (#[.func (.yield l) #[] #[]] ++ lb) W fun e W' => (∃ v, e = .returned v) ∧ ((∃ xs, S xs ∧ J xs W') ∨ (∃ pre, Sp pre ∧ Jx pre W'))

def ownPostT {α : Type} (B : Nat) (Kp : World → World → Prop) (I : List α → World → Prop) (Ix : Code → List α → World → Prop) (xs : List α) (W : World) : Exit → Act → World → Prop
  | .normal, _, W' => KeepsT B W W' ∧ Kp W W' ∧ I xs W'
  | .ret, _, W' => KeepsT B W W' ∧ Ix .ret xs W'
  | .exit id, _, W' => KeepsT B W W' ∧ Ix (.exit id) xs W'
  | .goto t, _, W' => KeepsT B W W' ∧ Ix (.goto t) xs W'
  | .panic _, _, _ => False
  | .outgrown, _, _ => False

/-- The loop's two blocks of its own. -/
structure TwoT (m : Nat) (r : Loop) (W : World) : Prop where
  lp : W.heap[m + 1]? = some (.loop r)
  dfr : W.heap[m]? = some (.deferred (some []))
theorem TwoT.lt {m : Nat} {r : Loop} {W : World} (h : TwoT m r W) : m + 1 < W.heap.size := (Array.getElem?_eq_some_iff.1 h.lp).1
theorem TwoT.grown {m : Nat} {r : Loop} {W W' : World} {row : Option Nat} (h : TwoT m r W) (hg : W.grownBy W' row) (hr : ∀ k, row = some k → m + 2 ≤ k) : TwoT m r W' :=
  ⟨(hg.block _ h.lt (fun e => by have := hr _ e.symm; omega)).trans h.lp, (hg.block _ (by have := h.lt; omega) (fun e => by have := hr _ e.symm; omega)).trans h.dfr⟩
theorem TwoT.kept {m : Nat} {r : Loop} {W W' : World} (h : TwoT m r W) (hk : KeepsT m W W') : TwoT m r W' := ⟨hk.same _ _ (by omega) h.lp ⟨rfl, rfl⟩, hk.same _ _ (Nat.le_refl _) h.dfr ⟨rfl, rfl⟩⟩
theorem TwoT.turn {m : Nat} {r : Loop} {W : World} (h : TwoT m r W) (r' : Loop) : TwoT m r' (W.putObj (m + 1) (.loop r')) := ⟨World.putObj_heap_same h.lt, (World.putObj_heap_other (by omega)).trans h.dfr⟩

variable {F : Fence} {n : Nat} {P : Program}

theorem wpIn_rangeFunc_T {α : Type} {g : Operand} {ps : Array Tmp} {assign body : Code} {Q : Exit → Act → World → Prop} {a : Act} {w : World}
    (hro : F.round = none) (h1 : 1 ≤ n) {gf : Nat} {lb : Array Value} (hg : a.eval g = .func (.func gf) #[] lb) (hFg : F.fn gf) (eg : ∀ args w, (callFunc gf args).run P w = .ok (.enter gf args) w)
    {encs : α → Array Value} {Kp : World → World → Prop} {S Sp : List α → Prop} {N : Nat} {w0 : World} (hseq : SeqStopsT F (n - 1) P gf lb encs Kp S Sp N w0)
    (hKt : ∀ {A B C : World}, Kp A B → Kp B C → Kp A C) (hKb : ∀ (W : World) (l : Nat) (o o' : Obj), w.heap.size ≤ l → W.heap[l]? = some o → o.isCells = false → o.isWalk = false → Kp W (W.putObj l o')) (hb0 : Below w0.heap.size w0 w) (hps : ∀ x, (encs x).size = ps.size)
    (I : List α → World → Prop) (Ix : Code → List α → World → Prop) (hI : OwnT w.heap.size I) (hIx : ∀ c, OwnT w.heap.size (Ix c)) (h0 : I [] w) (a₁ : α → Act)
    (hassign : ∀ (l : Nat) (x : α) (W : World) (K : Act → World → Prop), K (a₁ x) W →
      assign.wpIn (F.inRound l) (n - 1 - 1) P (Exit.then K (fun _ _ _ => False)) { tmps := (ps.zip (encs x)).foldl (fun t (p, v) => t.setIfInBounds p v) a.tmps, defers := [] } W)
    (hbody : ∀ (l : Nat) (pre : List α) (x : α) (W : World), w.heap.size ≤ l → (∃ r, W.heap[l]? = some (.loop r)) → I pre W → pre.length < N → body.wpIn (F.inRound l) (n - 1 - 1) P (ownPostT w.heap.size Kp I Ix (pre ++ [x]) W) (a₁ x) W)
    (hdone : ∀ (d : Nat) (xs : List α) (W : World), w.heap.size ≤ d → S xs → I xs W → W.heap[d]? = some (.deferred (some [])) → Q .normal { a with defers := { target := .collected d, args := #[] } :: a.defers } W)
    (hstop : ∀ (d : Nat) (c : Code) (pre : List α) (W : World), w.heap.size ≤ d → Sp pre → Ix c pre W → W.heap[d]? = some (.deferred (some [])) → c.wpIn F n P Q { a with defers := { target := .collected d, args := #[] } :: a.defers } W) :
    (Code.rangeFunc g ps assign body).wpIn F n P Q a w := by
  refine wpIn_rangeFunc fun fn hfn => ?_
  rw [hro]
  obtain ⟨m, hm⟩ : ∃ m, w.heap.size = m := ⟨_, rfl⟩
  obtain ⟨R, hR⟩ : ∃ R : LoopState → Option Code → Loop, R = fun st pe => { state := st, pending := pe, fn, tmps := a.tmps, params := ps, assign, body, defers := m } := ⟨_, rfl⟩
  obtain ⟨W1, hW1⟩ : ∃ W1, (w.alloc (.deferred (some []))).alloc (.loop (R .ready none)) = W1 := ⟨_, rfl⟩
  have hsz : W1.heap.size = m + 2 := by rw [← hW1]; simp [hm]
  have hB1 : TwoT m (R .ready none) W1 := by
    refine ⟨?_, ?_⟩
    · have h := World.alloc_heap_new (w.alloc (.deferred (some []))) (.loop (R .ready none))
      rw [World.size_alloc, hm, hW1] at h; exact h
    · rw [← hW1, ← hm]; exact (Below.heap_alloc _ _ _ (by simp)).trans (World.alloc_heap_new w _)
  have hbw : Below m w W1 := by rw [← hW1, ← hm]; exact ((Below.refl _ w).alloc (Nat.le_refl _) _).alloc (by simp) _
  rw [hm] at hI hKb hbody hdone hstop
  have hIx' : ∀ c, OwnT m (Ix c) := fun c => by rw [← hm]; exact hIx c
  have up : ∀ {A : World} {row : Option Nat}, (∀ k, row = some k → W1.heap.size ≤ k ∧ ∃ o : Obj, A.heap[k]? = some o ∧ Plain o) → ∀ k, row = some k → m ≤ k ∧ ∃ o : Obj, A.heap[k]? = some o ∧ Plain o :=
    fun h k e => ⟨by have := (h k e).1; omega, (h k e).2⟩
  have two : ∀ {A : World} {row : Option Nat}, (∀ k, row = some k → W1.heap.size ≤ k ∧ ∃ o : Obj, A.heap[k]? = some o ∧ Plain o) → ∀ k, row = some k → m + 2 ≤ k :=
    fun h k e => by have := (h k e).1; omega
  refine ⟨m + 1, [{ target := .collected m, args := #[] }], W1, { target := .fn (.func gf) lb, args := #[.func (.yield (m + 1)) #[] #[]] }, W1, gf, #[.func (.yield (m + 1)) #[] #[]] ++ lb, W1, ?_, ?_, ?_, ?_, fun _ => h1, ?_⟩
  · have h := run_enterLoop_outer (P := P) (w := w) fn a.tmps ps assign body
    rw [hm] at h
    rw [h, ← hW1, hR]
  · simp only [resolve, hg]
    simp [go_sem]
  · intro f' hf'
    simp [Target.leads] at hf'
    subst hf'; exact hFg
  · simp [invoke, go_sem, eg]
  refine (hseq (m + 1) (fun pre W => I pre W ∧ TwoT m (R .ready none) W) (fun pre W => ∃ c, Ix c pre W ∧ TwoT m (R .done (some c)) W) W1 (hb0.trans (hbw.mono (by rw [← hm]; exact hb0.size)))
    (fun s A B row hs hgr hr => ⟨hI s A B row hs.1 hgr (up hr), hs.2.grown hgr (two hr)⟩)
    (fun s A B row hs hgr hr => by obtain ⟨c, hc, ht⟩ := hs; exact ⟨c, hIx' c s A B row hc hgr (up hr), ht.grown hgr (two hr)⟩)
    ?_ ⟨?_, hB1⟩).mono ?_
  · rintro pre x W ⟨hi, ht⟩ hlen
    have hy := run_yield (P := P) (args := encs x) ht.lp (by rw [hR]; exact hps x)
    rw [hR] at hy
    refine ⟨fn, _, assign, body, hy, roundIn_of_wpIn hfn (hassign _ x W _ ?_)⟩
    obtain ⟨Wb, hWb⟩ : ∃ Wb, W.putObj (m + 1) (.loop (R .busy none)) = Wb := ⟨_, rfl⟩
    have hbeg := run_beginRound (P := P) ht.lp (by rw [hR])
    have hbusy : ({ R .ready none with state := .busy } : Loop) = R .busy none := by rw [hR]
    rw [hbusy, hWb] at hbeg
    have htb : TwoT m (R .busy none) Wb := by rw [← hWb]; exact ht.turn _
    have hib : I pre Wb := by rw [← hWb]; exact hI.putObj _ hi (by omega) ht.lp ⟨rfl, rfl⟩
    have hkb : Kp W Wb := by rw [← hWb]; exact hKb _ _ _ _ (by omega) ht.lp rfl rfl
    refine ⟨Wb, hbeg, wpIn_mono (hbody _ pre x Wb (by omega) ⟨_, htb.lp⟩ hib hlen) ?_⟩
    have fin : ∀ (jump : Option Code) (W3 : World), KeepsT m Wb W3 → (Instr.endRound (m + 1) jump).run P W3 = .ok (.bool jump.isNone) (W3.putObj (m + 1) (.loop (R (if jump.isNone then .ready else .done) jump))) ∧ TwoT m (R .busy none) W3 := fun jump W3 hk => by
      have h3 := htb.kept hk
      have := run_endRound (P := P) jump h3.lp
      rw [hR] at this ⊢
      exact ⟨this, by rw [hR] at h3; exact h3⟩
    have hkw : ∀ (o : Obj) (W3 : World), KeepsT m Wb W3 → KeepsT W1.heap.size W (W3.putObj (m + 1) o) := fun o W3 hk => by
      rw [hsz]
      have h1 : KeepsT (m + 2) W Wb := by rw [← hWb]; exact KeepsT.of_put _ (by omega)
      exact (h1.trans (hk.mono (by omega))).put _ (by omega)
    have leave : ∀ (c : Code) (W3 : World), KeepsT m Wb W3 → Ix c (pre ++ [x]) W3 → ∃ v w', (Instr.endRound (m + 1) (some c)).run P W3 = .ok v w' ∧ ((Ending.returned v = .returned (.bool true) ∧ (I (pre ++ [x]) w' ∧ TwoT m (R .ready none) w') ∧ Kp W w' ∧ KeepsT W1.heap.size W w') ∨ (Ending.returned v = .returned (.bool false) ∧ (∃ c, Ix c (pre ++ [x]) w' ∧ TwoT m (R .done (some c)) w') ∧ KeepsT W1.heap.size W w')) := fun c W3 hk hx => by
      obtain ⟨hr, h3⟩ := fin (some c) W3 hk
      exact ⟨_, _, hr, .inr ⟨rfl, ⟨c, (hIx' c).putObj _ hx (by omega) h3.lp ⟨rfl, rfl⟩, h3.turn _⟩, hkw _ W3 hk⟩⟩
    intro e a3 W3 hp
    cases e with
    | normal =>
      obtain ⟨hk, hkp, hi3⟩ := hp
      obtain ⟨hr, h3⟩ := fin none W3 hk
      exact ⟨_, _, hr, .inl ⟨rfl, ⟨hI.putObj _ hi3 (by omega) h3.lp ⟨rfl, rfl⟩, h3.turn _⟩, hKt hkb (hKt hkp (hKb _ _ _ _ (by omega) h3.lp rfl rfl)), hkw _ W3 hk⟩⟩
    | ret => exact leave _ _ hp.1 hp.2
    | exit id => exact leave _ _ hp.1 hp.2
    | goto t => exact leave _ _ hp.1 hp.2
    | panic ch => exact hp.elim
    | outgrown => exact hp.elim
  · rw [← hW1]; exact hI.alloc _ (hI.alloc _ h0)
  · rintro e W2 ⟨⟨v, rfl⟩, (⟨xs, hS, hi, ht⟩ | ⟨pre, hSp, c, hi, ht⟩)⟩
    · have h := run_endLoop (P := P) ht.lp (by rw [hR]; simp)
      rw [hR] at h
      exact ⟨none, _, h, hdone m xs _ (Nat.le_refl _) hS (hI.putObj _ hi (by omega) ht.lp ⟨rfl, rfl⟩) ((World.putObj_heap_other (by omega)).trans ht.dfr)⟩
    · have h := run_endLoop (P := P) ht.lp (by rw [hR]; simp)
      rw [hR] at h
      exact ⟨some c, _, h, hstop m c pre _ (Nat.le_refl _) hSp ((hIx' c).putObj _ hi (by omega) ht.lp ⟨rfl, rfl⟩) ((World.putObj_heap_other (by omega)).trans ht.dfr)⟩
end Go.Proofs.Ytnpnfajgphpabaa

/-
  Rows of the call's own whose elements have k cells each; blocks of cells. (XTokR's first half.)
-/
namespace Go.Proofs.Ytnpnfajgphpabaa
set_option linter.unusedVariables false
set_option linter.unusedSimpArgs false
open Go.RowKit Go.Shelf
set_option maxRecDepth 20000

def OwnK {α : Type} (k : Nat) (T : TypeId) (enc : α → List Value) (W : World) (base : Nat) (v : Value) (xs : List α) : Prop := W.ownsRow base T k v xs.length (xs.flatMap enc)
structure ElemK (k : Nat) (T S : TypeId) (bytes : Nat) : Prop where
  ht : Try.prog.underlying S = some (.slice T)
  info : ∃ i z, Try.prog.info? T = some i ∧ i.zero = some z ∧ i.size = k ∧ i.bytes = bytes ∧ z.cells.size = k

theorem kcell {W : World} {B : Nat} {cs : Array Value} {t : TypeId} (h : W.heap[B]? = some (.cells cs t)) (j : Nat) (v : Value) (hv : cs[j]? = some v) : W.cell? ⟨B, j, none⟩ = some v := by
  simp only [World.cell?, h]
  simpa using hv
theorem kset {W : World} {B : Nat} {cs : Array Value} {t : TypeId} (h : W.heap[B]? = some (.cells cs t)) (j : Nat) (v : Value) : (W.setCell ⟨B, j, none⟩ v).heap[B]? = some (.cells (cs.setIfInBounds j v) t) := by
  obtain ⟨hlt, hk⟩ := Array.getElem?_eq_some_iff.1 h
  show (W.heap.modify B _)[B]? = _
  rw [Array.getElem?_eq_getElem (by rw [Array.size_modify]; exact hlt), Array.getElem_modify_self, hk]
  rfl
theorem kgrown_set (W : World) (b j : Nat) (v : Value) : W.grownBy (W.setCell ⟨b, j, none⟩ v) (some b) :=
  ⟨rfl, rfl, rfl, (KeepsWalks.setCell W _ v).size, fun k _ hk => Below.heap_setCell _ _ _ k (fun e => hk (by rw [e]))⟩
theorem kfrozen {W : World} {B : Nat} {cs : Array Value} {t : TypeId} (h : W.heap[B]? = some (.cells cs t)) (j : Nat) : W.frozen? ⟨B, j, none⟩ = false := by simp [World.frozen?, h]
theorem kblock_lt {W : World} {B : Nat} {o : Obj} (h : W.heap[B]? = some o) : B < W.heap.size := (Array.getElem?_eq_some_iff.1 h).1
theorem knew (W : World) (o : Obj) : (W.alloc o).heap[W.heap.size]? = some o := by
  show (W.heap.push o)[W.heap.size]? = some o
  simp

theorem kdrew {n : Nat} {a w : World} (h : Below n a w) : Below n a w.drew := h.trans ⟨rfl, rfl, rfl, Nat.le_refl _, fun _ _ => rfl⟩
theorem kregion_tail {P : Program} {id : Nat} {Q : Exit → Act → World → Prop} {a : Act} {w : World} {l : List Oper} (n : Nat) (hm : P.follows .mixedOrders = true) (hB : Region.lexTailB .any l.toArray n = true)
    (h : wpStill P l.toArray w.drew (fun a' => wpList P l.toArray Q (l.drop n) a' w.drew) (l.take n) a) : (Code.region id l.toArray true).wp P Q a w := wp_region_still_tail n hm hB h

theorem kg_refl (w : World) (r : Option Nat) : w.grownBy w r := ⟨rfl, rfl, rfl, Nat.le_refl _, fun _ _ _ => rfl⟩
theorem kg_trans {a b c : World} {r : Option Nat} (h : a.grownBy b r) (g : b.grownBy c r) : a.grownBy c r :=
  ⟨g.os.trans h.os, g.tape.trans h.tape, g.output.trans h.output, Nat.le_trans h.size g.size, fun k hk hne => (g.block k (Nat.lt_of_lt_of_le hk h.size) hne).trans (h.block k hk hne)⟩
theorem kg_drew (w : World) (r : Option Nat) : w.grownBy w.drew r := ⟨rfl, rfl, rfl, Nat.le_refl _, fun _ _ _ => rfl⟩
theorem kg_alloc (w : World) (o : Obj) (r : Option Nat) : w.grownBy (w.alloc o) r := by
  have h := World.grownBy_alloc w o none
  exact ⟨h.os, h.tape, h.output, h.size, fun k hk _ => h.block k hk (by simp)⟩

section
variable {α : Type} {k : Nat} {T S : TypeId} {enc : α → List Value}
theorem OwnK.alloc {W : World} {base : Nat} {v : Value} {xs : List α} (h : OwnK k T enc W base v xs) (o : Obj) : OwnK k T enc (W.alloc o) base v xs := World.ownsRow.alloc h o
theorem OwnK.nil (W : World) (base : Nat) : OwnK k T enc W base (.slice none 0 0) [] := World.ownsRow_nil _ _ _ _
theorem OwnK.base_le {W : World} {base : Nat} {v : Value} {xs : List α} (h : OwnK k T enc W base v xs) : ∀ b, v.ownBlock = some b → base ≤ b := by
  intro b hk
  rcases h.2 with ⟨rfl, _⟩ | ⟨g, cap, cur, rfl, hb, _⟩
  · simp [Value.ownBlock] at hk
  · obtain rfl : g = b := by simpa [Value.ownBlock] using hk
    exact hb
theorem OwnK.shape {W : World} {base : Nat} {v : Value} {xs : List α} (h : OwnK k T enc W base v xs) : ∃ a c, v = .slice a xs.length c := by
  rcases h.2 with ⟨rfl, h0⟩ | ⟨g, cap, cur, rfl, _⟩
  · exact ⟨none, 0, by rw [h0]⟩
  · exact ⟨_, _, rfl⟩
theorem OwnK.kept {W W' : World} {row : Option Nat} {base : Nat} {v : Value} {xs : List α} (h : OwnK k T enc W base v xs) (hg : W.grownBy W' row) (hne : v.ownBlock = none ∨ v.ownBlock ≠ row) : OwnK k T enc W' base v xs := World.ownsRow.kept h hg hne
theorem OwnK.below {W W' : World} {base : Nat} {v : Value} {xs : List α} (h : OwnK k T enc W base v xs) (hb : Below W.heap.size W W') : OwnK k T enc W' base v xs :=
  h.kept (row := none) ⟨hb.os, hb.tape, hb.output, hb.size, fun k hk _ => hb.block k hk⟩ (by cases v.ownBlock <;> simp)
theorem OwnK.lt {W : World} {base : Nat} {v : Value} {xs : List α} (h : OwnK k T enc W base v xs) : ∀ b, v.ownBlock = some b → b < W.heap.size := by
  intro b hk
  rcases h.2 with ⟨rfl, _⟩ | ⟨g, cap, cur, rfl, hb, hg, _⟩
  · simp [Value.ownBlock] at hk
  · obtain rfl : g = b := by simpa [Value.ownBlock] using hk
    exact (Array.getElem?_eq_some_iff.1 hg).1
theorem OwnK.weaken {W : World} {base b2 : Nat} {v : Value} {xs : List α} (h : OwnK k T enc W base v xs) (hb : b2 ≤ base) : OwnK k T enc W b2 v xs := by
  refine ⟨h.1, ?_⟩
  rcases h.2 with hn | ⟨g, cap, cur, e, hg, rest⟩
  · exact .inl hn
  · exact .inr ⟨g, cap, cur, e, by omega, rest⟩
theorem OwnK.ne_block {W : World} {base : Nat} {v : Value} {xs : List α} (h : OwnK k T enc W base v xs) {B : Nat} {cs : Array Value} {t : TypeId} (hB : W.heap[B]? = some (.cells cs t)) (ht : t ≠ T) : some B ≠ v.ownBlock := by
  rcases h.2 with ⟨rfl, _⟩ | ⟨g, cap, cur, rfl, _, hg, _⟩
  · simp [Value.ownBlock]
  · intro e
    obtain rfl : B = g := by simpa [Value.ownBlock] using e
    rw [hg] at hB
    cases hB
    exact ht rfl
theorem OwnK.apart {β : Type} {k' : Nat} {T' : TypeId} {enc' : β → List Value} {W : World} {base base' : Nat} {v v' : Value} {xs : List α} {ys : List β} (h : OwnK k T enc W base v xs) (h' : OwnK k' T' enc' W base' v' ys) (hT : T ≠ T') : v.ownBlock = none ∨ v.ownBlock ≠ v'.ownBlock := by
  rcases h.2 with ⟨rfl, _⟩ | ⟨g, cap, cur, rfl, _, hg, _⟩
  · left; rfl
  · right
    intro e
    exact h'.ne_block hg hT e
theorem OwnK.kept2 {β : Type} {k' : Nat} {T' : TypeId} {enc' : β → List Value} {W W' : World} {base base' : Nat} {v v' : Value} {xs : List α} {ys : List β} (h : OwnK k T enc W base v xs) (h' : OwnK k' T' enc' W base' v' ys) (hT : T ≠ T') (hg : W.grownBy W' v'.ownBlock) : OwnK k T enc W' base v xs :=
  h.kept hg (h.apart h' hT)
theorem OwnK.keptB {W : World} {base : Nat} {v : Value} {xs : List α} (h : OwnK k T enc W base v xs) {B : Nat} {cs : Array Value} {t : TypeId} (hB : W.heap[B]? = some (.cells cs t)) (ht : t ≠ T) (j : Nat) (u : Value) : OwnK k T enc (W.setCell ⟨B, j, none⟩ u) base v xs :=
  h.kept (kgrown_set W B j u) (.inr (fun e => h.ne_block hB ht e.symm))
/-- The row cut to its head. -/
theorem OwnK.cut {W : World} {base : Nat} {a : Option Addr} {n c : Nat} {xs : List α} (h : OwnK k T enc W base (.slice a n c) xs) (m : Nat) (hm : m ≤ xs.length) (henc : ∀ x, (enc x).length = k) : OwnK k T enc W base (.slice a m c) (xs.take m) := by
  have hlen : ∀ l : List α, (l.flatMap enc).length = l.length * k := by
    intro l; induction l with
    | nil => simp
    | cons x l ih => simp [ih, henc, Nat.add_mul, Nat.add_comm]
  have htake : ∀ (l : List α) (m : Nat), (l.take m).flatMap enc = (l.flatMap enc).take (m * k) := by
    intro l; induction l with
    | nil => intro m; simp
    | cons x l ih =>
      intro m
      cases m with
      | zero => simp
      | succ m =>
        rw [List.take_succ_cons, List.flatMap_cons, List.flatMap_cons, ih, Nat.succ_mul, Nat.add_comm (m * k) k, List.take_append, List.take_of_length_le (l := enc x) (by rw [henc]; omega), henc, Nat.add_sub_cancel_left]
  unfold OwnK World.ownsRow at h ⊢
  have hl : (xs.take m).length = m := by rw [List.length_take]; omega
  rw [hl]
  refine ⟨by rw [hlen, hl], ?_⟩
  rcases h.2 with ⟨e, h0⟩ | ⟨g, cap, cur, e, hb, hg, hc, hmx, hsz, htk⟩
  · cases e
    left
    exact ⟨by congr 1; omega, by omega⟩
  · cases e
    right
    refine ⟨g, c, cur, rfl, hb, hg, by omega, hmx, hsz, ?_⟩
    rw [htake, ← htk, List.take_take]
    congr 1
    exact (Nat.min_eq_left (Nat.mul_le_mul_right k hm)).symm

theorem wpl_append_k {ops : Array Oper} {rest : List Oper} {o : Oper} {a : Act} {Q : Exit → Act → World → Prop} (W : World) (hgd : o.guard = none) (s x : Operand) {bytes : Nat} (hE : ElemK k T S bytes) (hk0 : 0 < k)
    (ho : o.op = .call { callee := .builtin .append, args := #[s, x], argTypes := #[S, S] }) (hone : ∀ x : α, ∀ u ∈ enc x, u.oneCell' = true)
    (base : Nat) (v : Value) (xs : List α) (hs : a.eval s = v) (hown : OwnK k T enc W base v xs)
    (cells : List Value) (news : List α) (hcells : cells = news.flatMap enc) (hcl : cells.length = news.length * k) (m c : Nat) (hx : a.eval x = .slice (some ⟨W.heap.size, 0, none⟩) m c) (hm : m = news.length)
    (hbase : base ≤ W.heap.size) (hk : xs.length + news.length ≤ maxLen) (hk2 : (xs.length + news.length) * bytes ≤ 140737488355328)
    (h : ∀ v' w', OwnK k T enc w' base v' (xs ++ news) → W.grownBy w' v.ownBlock → (v'.ownBlock = v.ownBlock ∨ v'.ownBlock = some (W.heap.size + 1)) → wpList Try.prog ops Q rest (a.put o.dst v') w') :
    wpList Try.prog ops Q (o :: rest) a (W.alloc (.cells cells.toArray T)) := by
  subst hcells hm
  obtain ⟨ht, i, z, hi, hz, hz1, hz2, hzc⟩ := hE
  refine wpList_append_own_at _ hgd s x S ho base T i z k bytes ht hi hz hz1 hz2 hzc hk0 v xs.length (xs.flatMap enc) hs (hown.alloc _) ⟨W.heap.size, 0, none⟩ news.length c (news.flatMap enc) hx hcl (cells_new W _ _) (by intro u hu; obtain ⟨y, _, hy⟩ := List.mem_flatMap.1 hu; exact hone y u hy) hk hk2 (by simp; omega) ?_
  intro v' w' h1 h2 _ h4
  refine h v' w' ?_ (grownBy_of_alloc h2) (by simpa using h4)
  unfold OwnK
  rw [List.length_append, List.flatMap_append]
  exact h1
end

end Go.Proofs.Ytnpnfajgphpabaa

