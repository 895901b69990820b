/-
  As SeqT, where the iterator writes cells of its own: what lies between two rounds abides the turn of a block whose object is one of Y; the body is told a fact D of what is yielded.
-/
import Derived.Test.YtbnkecmhmcligaaMQ18
import Derived.Test.YtbnkecmhmcligaaMQ39
import Derived.Test.YtbnkecmhmcligaaMQ40
import Derived.Test.YtbnkecmhmcligaaMQ21
import Derived.ProofKit
import Derived.OpenShut
import Derived.ShutString
import Derived.ChangeArms
import Derived.ChangeSlices
import Derived.SliceStrings
import Derived.Deep.Slices
import Derived.Shelf.Vars
import Derived.Handed
namespace Go.Proofs.Ytbnkecmhmcligaa
set_option linter.unusedVariables false
set_option linter.unusedSimpArgs false
set_option maxRecDepth 20000
open Go.RowKit Go.Shelf

def OwnY (Y : Obj → Prop) {β : Type} (B : Nat) (I : β → World → Prop) : Prop :=
  ∀ s W W' row, I s W → W.grownBy W' row → (∀ r, row = some r → B ≤ r ∧ ∃ o : Obj, W.heap[r]? = some o ∧ Y o) → I s W'
theorem OwnY.mono {Y : Obj → Prop} {β : Type} {B B' : Nat} {I : β → World → Prop} (h : OwnY Y B I) (hB : B ≤ B') : OwnY Y B' I := fun s W W' row hs hg hr => h s W W' row hs hg (fun r e => ⟨Nat.le_trans hB (hr r e).1, (hr r e).2⟩)
theorem OwnY.t {Y : Obj → Prop} {β : Type} {B : Nat} {I : β → World → Prop} (h : OwnY Y B I) (hY : ∀ o, Plain o → Y o) : OwnT B I := fun s W W' row hs hg hr => h s W W' row hs hg (fun r e => by obtain ⟨a, o, b, c⟩ := hr r e; exact ⟨a, o, b, hY o c⟩)
theorem OwnY.putObj {Y : Obj → Prop} {β : Type} {B : Nat} {I : β → World → Prop} (h : OwnY Y B I) {s : β} {W : World} {l : Nat} {o : Obj} (o' : Obj) (hs : I s W) (hB : B ≤ l) (hl : W.heap[l]? = some o) (ho : Y o) : I s (W.putObj l o') :=
  h s W _ (some l) hs (grownBy_putObj' W l o') (fun r e => by cases e; exact ⟨hB, o, hl, ho⟩)
theorem OwnY.alloc {Y : Obj → Prop} {β : Type} {B : Nat} {I : β → World → Prop} (h : OwnY Y B I) {s : β} {W : World} (o : Obj) (hs : I s W) : I s (W.alloc o) :=
  h s W _ none hs (World.grownBy_alloc W o none) (fun r e => by cases e)
def SeqStopsU (Y : Obj → Prop) {α : Type} (F : Fence) (n : Nat) (P : Program) (g : Nat) (lb : Array Value) (encs : α → Array Value) (D : α → World → Prop) (Kp : World → World → Prop) (S Sp : List α → Prop) (N : Nat) (w : World) : Prop :=
  ∀ (l : Nat) (J Jx : List α → World → Prop) (W : World), Below w.heap.size w W → OwnY Y W.heap.size J → OwnY Y W.heap.size Jx →
    (∀ pre x W1, J pre W1 → D x W1 → pre.length < N → YieldAt F (n - 1) P l (encs x) W1 fun e W' =>
      (e = .returned (.bool true) ∧ J (pre ++ [x]) W' ∧ Kp W1 W' ∧ KeepsT W.heap.size W1 W') ∨ (e = .returned (.bool false) ∧ Jx (pre ++ [x]) W' ∧ KeepsT W.heap.size W1 W')) →
    J [] W →
    CallsIn F n P g (#[.func (.yield l) #[] #[]] ++ lb) W fun e W' => (∃ v, e = .returned v) ∧ ((∃ xs, S xs ∧ J xs W') ∨ (∃ pre, Sp pre ∧ Jx pre W'))

variable {F : Fence} {n : Nat} {P : Program}

theorem wpIn_rangeFunc_U {Y : Obj → Prop} (hYP : ∀ o, Plain o → Y o) {α : Type} {g : Operand} {ps : Array Tmp} {assign body : Code} {Q : Exit → Act → World → Prop} {a : Act} {w : World}
    (hro : F.round = none) (h1 : 1 ≤ n) {gf : Nat} {lb : Array Value} (hg : a.eval g = .func (.func gf) #[] lb) (hFg : F.fn gf) (eg : ∀ args w, (callFunc gf args).run P w = .ok (.enter gf args) w)
    {encs : α → Array Value} {D : α → World → Prop} {Kp : World → World → Prop} {S Sp : List α → Prop} {N : Nat} {w0 : World} (hseq : SeqStopsU Y F (n - 1) P gf lb encs D Kp S Sp N w0) (hDP : ∀ x (W : World) (l : Nat) (o o' : Obj), w.heap.size ≤ l → W.heap[l]? = some o → Plain o → D x W → D x (W.putObj l o'))
    (hKt : ∀ {A B C : World}, Kp A B → Kp B C → Kp A C) (hKb : ∀ (W : World) (l : Nat) (o o' : Obj), w.heap.size ≤ l → W.heap[l]? = some o → o.isCells = false → o.isWalk = false → Kp W (W.putObj l o')) (hb0 : Below w0.heap.size w0 w) (hps : ∀ x, (encs x).size = ps.size)
    (I : List α → World → Prop) (Ix : Code → List α → World → Prop) (hI : OwnY Y w.heap.size I) (hIx : ∀ c, OwnY Y w.heap.size (Ix c)) (h0 : I [] w) (a₁ : α → Act)
    (hassign : ∀ (l : Nat) (x : α) (W : World) (K : Act → World → Prop), K (a₁ x) W →
      assign.wpIn (F.inRound l) (n - 1 - 1) P (Exit.then K (fun _ _ _ => False)) { tmps := (ps.zip (encs x)).foldl (fun t (p, v) => t.setIfInBounds p v) a.tmps, defers := [] } W)
    (hbody : ∀ (l : Nat) (pre : List α) (x : α) (W : World), w.heap.size ≤ l → (∃ r, W.heap[l]? = some (.loop r)) → I pre W → D x W → pre.length < N → body.wpIn (F.inRound l) (n - 1 - 1) P (ownPostT w.heap.size Kp I Ix (pre ++ [x]) W) (a₁ x) W)
    (hdone : ∀ (d : Nat) (xs : List α) (W : World), w.heap.size ≤ d → S xs → I xs W → W.heap[d]? = some (.deferred (some [])) → Q .normal { a with defers := { target := .collected d, args := #[] } :: a.defers } W)
    (hstop : ∀ (d : Nat) (c : Code) (pre : List α) (W : World), w.heap.size ≤ d → Sp pre → Ix c pre W → W.heap[d]? = some (.deferred (some [])) → c.wpIn F n P Q { a with defers := { target := .collected d, args := #[] } :: a.defers } W) :
    (Code.rangeFunc g ps assign body).wpIn F n P Q a w := by
  refine wpIn_rangeFunc fun fn hfn => ?_
  rw [hro]
  obtain ⟨m, hm⟩ : ∃ m, w.heap.size = m := ⟨_, rfl⟩
  obtain ⟨R, hR⟩ : ∃ R : LoopState → Option Code → Loop, R = fun st pe => { state := st, pending := pe, fn, tmps := a.tmps, params := ps, assign, body, defers := m } := ⟨_, rfl⟩
  obtain ⟨W1, hW1⟩ : ∃ W1, (w.alloc (.deferred (some []))).alloc (.loop (R .ready none)) = W1 := ⟨_, rfl⟩
  have hsz : W1.heap.size = m + 2 := by rw [← hW1]; simp [hm]
  have hB1 : TwoT m (R .ready none) W1 := by
    refine ⟨?_, ?_⟩
    · have h := World.alloc_heap_new (w.alloc (.deferred (some []))) (.loop (R .ready none))
      rw [World.size_alloc, hm, hW1] at h; exact h
    · rw [← hW1, ← hm]; exact (Below.heap_alloc _ _ _ (by simp)).trans (World.alloc_heap_new w _)
  have hbw : Below m w W1 := by rw [← hW1, ← hm]; exact ((Below.refl _ w).alloc (Nat.le_refl _) _).alloc (by simp) _
  rw [hm] at hI hKb hDP hbody hdone hstop
  have hIx' : ∀ c, OwnY Y m (Ix c) := fun c => by rw [← hm]; exact hIx c
  have up : ∀ {A : World} {row : Option Nat}, (∀ k, row = some k → W1.heap.size ≤ k ∧ ∃ o : Obj, A.heap[k]? = some o ∧ Y o) → ∀ k, row = some k → m ≤ k ∧ ∃ o : Obj, A.heap[k]? = some o ∧ Y o :=
    fun h k e => ⟨by have := (h k e).1; omega, (h k e).2⟩
  have two : ∀ {A : World} {row : Option Nat}, (∀ k, row = some k → W1.heap.size ≤ k ∧ ∃ o : Obj, A.heap[k]? = some o ∧ Y o) → ∀ k, row = some k → m + 2 ≤ k :=
    fun h k e => by have := (h k e).1; omega
  refine ⟨m + 1, [{ target := .collected m, args := #[] }], W1, { target := .fn (.func gf) lb, args := #[.func (.yield (m + 1)) #[] #[]] }, W1, gf, #[.func (.yield (m + 1)) #[] #[]] ++ lb, W1, ?_, ?_, ?_, ?_, fun _ => h1, ?_⟩
  · have h := run_enterLoop_outer (P := P) (w := w) fn a.tmps ps assign body
    rw [hm] at h
    rw [h, ← hW1, hR]
  · simp only [resolve, hg]
    simp [go_sem]
  · intro f' hf'
    simp [Target.leads] at hf'
    subst hf'; exact hFg
  · simp [invoke, go_sem, eg]
  refine (hseq (m + 1) (fun pre W => I pre W ∧ TwoT m (R .ready none) W) (fun pre W => ∃ c, Ix c pre W ∧ TwoT m (R .done (some c)) W) W1 (hb0.trans (hbw.mono (by rw [← hm]; exact hb0.size)))
    (fun s A B row hs hgr hr => ⟨hI s A B row hs.1 hgr (up hr), hs.2.grown hgr (two hr)⟩)
    (fun s A B row hs hgr hr => by obtain ⟨c, hc, ht⟩ := hs; exact ⟨c, hIx' c s A B row hc hgr (up hr), ht.grown hgr (two hr)⟩)
    ?_ ⟨?_, hB1⟩).mono ?_
  · rintro pre x W ⟨hi, ht⟩ hd hlen
    have hy := run_yield (P := P) (args := encs x) ht.lp (by rw [hR]; exact hps x)
    rw [hR] at hy
    refine ⟨fn, _, assign, body, hy, roundIn_of_wpIn hfn (hassign _ x W _ ?_)⟩
    obtain ⟨Wb, hWb⟩ : ∃ Wb, W.putObj (m + 1) (.loop (R .busy none)) = Wb := ⟨_, rfl⟩
    have hbeg := run_beginRound (P := P) ht.lp (by rw [hR])
    have hbusy : ({ R .ready none with state := .busy } : Loop) = R .busy none := by rw [hR]
    rw [hbusy, hWb] at hbeg
    have htb : TwoT m (R .busy none) Wb := by rw [← hWb]; exact ht.turn _
    have hib : I pre Wb := by rw [← hWb]; exact hI.putObj _ hi (by omega) ht.lp (hYP _ ⟨rfl, rfl⟩)
    have hdb : D x Wb := by rw [← hWb]; exact hDP x W _ _ _ (by omega) ht.lp ⟨rfl, rfl⟩ hd
    have hkb : Kp W Wb := by rw [← hWb]; exact hKb _ _ _ _ (by omega) ht.lp rfl rfl
    refine ⟨Wb, hbeg, wpIn_mono (hbody _ pre x Wb (by omega) ⟨_, htb.lp⟩ hib hdb hlen) ?_⟩
    have fin : ∀ (jump : Option Code) (W3 : World), KeepsT m Wb W3 → (Instr.endRound (m + 1) jump).run P W3 = .ok (.bool jump.isNone) (W3.putObj (m + 1) (.loop (R (if jump.isNone then .ready else .done) jump))) ∧ TwoT m (R .busy none) W3 := fun jump W3 hk => by
      have h3 := htb.kept hk
      have := run_endRound (P := P) jump h3.lp
      rw [hR] at this ⊢
      exact ⟨this, by rw [hR] at h3; exact h3⟩
    have hkw : ∀ (o : Obj) (W3 : World), KeepsT m Wb W3 → KeepsT W1.heap.size W (W3.putObj (m + 1) o) := fun o W3 hk => by
      rw [hsz]
      have h1 : KeepsT (m + 2) W Wb := by rw [← hWb]; exact KeepsT.of_put _ (by omega)
      exact (h1.trans (hk.mono (by omega))).put _ (by omega)
    have leave : ∀ (c : Code) (W3 : World), KeepsT m Wb W3 → Ix c (pre ++ [x]) W3 → ∃ v w', (Instr.endRound (m + 1) (some c)).run P W3 = .ok v w' ∧ ((Ending.returned v = .returned (.bool true) ∧ (I (pre ++ [x]) w' ∧ TwoT m (R .ready none) w') ∧ Kp W w' ∧ KeepsT W1.heap.size W w') ∨ (Ending.returned v = .returned (.bool false) ∧ (∃ c, Ix c (pre ++ [x]) w' ∧ TwoT m (R .done (some c)) w') ∧ KeepsT W1.heap.size W w')) := fun c W3 hk hx => by
      obtain ⟨hr, h3⟩ := fin (some c) W3 hk
      exact ⟨_, _, hr, .inr ⟨rfl, ⟨c, (hIx' c).putObj _ hx (by omega) h3.lp (hYP _ ⟨rfl, rfl⟩), h3.turn _⟩, hkw _ W3 hk⟩⟩
    intro e a3 W3 hp
    cases e with
    | normal =>
      obtain ⟨hk, hkp, hi3⟩ := hp
      obtain ⟨hr, h3⟩ := fin none W3 hk
      exact ⟨_, _, hr, .inl ⟨rfl, ⟨hI.putObj _ hi3 (by omega) h3.lp (hYP _ ⟨rfl, rfl⟩), h3.turn _⟩, hKt hkb (hKt hkp (hKb _ _ _ _ (by omega) h3.lp rfl rfl)), hkw _ W3 hk⟩⟩
    | ret => exact leave _ _ hp.1 hp.2
    | exit id => exact leave _ _ hp.1 hp.2
    | goto t => exact leave _ _ hp.1 hp.2
    | panic ch => exact hp.elim
    | outgrown => exact hp.elim
  · rw [← hW1]; exact hI.alloc _ (hI.alloc _ h0)
  · rintro e W2 ⟨⟨v, rfl⟩, (⟨xs, hS, hi, ht⟩ | ⟨pre, hSp, c, hi, ht⟩)⟩
    · have h := run_endLoop (P := P) ht.lp (by rw [hR]; simp)
      rw [hR] at h
      exact ⟨none, _, h, hdone m xs _ (Nat.le_refl _) hS (hI.putObj _ hi (by omega) ht.lp (hYP _ ⟨rfl, rfl⟩)) ((World.putObj_heap_other (by omega)).trans ht.dfr)⟩
    · have h := run_endLoop (P := P) ht.lp (by rw [hR]; simp)
      rw [hR] at h
      exact ⟨some c, _, h, hstop m c pre _ (Nat.le_refl _) hSp ((hIx' c).putObj _ hi (by omega) ht.lp (hYP _ ⟨rfl, rfl⟩)) ((World.putObj_heap_other (by omega)).trans ht.dfr)⟩
end Go.Proofs.Ytbnkecmhmcligaa

/-
  The marks that ranges over functions in a loop leave, taken at the function's end under an invariant.
-/
namespace Go.Proofs.Ytbnkecmhmcligaa
set_option linter.unusedVariables false
set_option linter.unusedSimpArgs false
set_option maxRecDepth 20000
open Go.RowKit Go.Shelf
def markT (D : Nat) : Deferred := { target := .collected D, args := #[] }
def MarksT (N0 : Nat) (Ds : List Nat) (W : World) : Prop := Ds.Nodup ∧ ∀ D ∈ Ds, N0 ≤ D ∧ W.heap[D]? = some (.deferred (some []))
theorem MarksT.nil (N0 : Nat) (W : World) : MarksT N0 [] W := ⟨List.nodup_nil, fun D h => by cases h⟩
theorem MarksT.kept {N0 : Nat} {Ds : List Nat} {W W' : World} (h : MarksT N0 Ds W) (hk : ∀ D o, N0 ≤ D → W.heap[D]? = some o → Plain o → W'.heap[D]? = some o) : MarksT N0 Ds W' :=
  ⟨h.1, fun D hD => ⟨(h.2 D hD).1, hk D _ (h.2 D hD).1 (h.2 D hD).2 ⟨rfl, rfl⟩⟩⟩
theorem MarksT.below {N0 : Nat} {Ds : List Nat} {W W' : World} (h : MarksT N0 Ds W) (hb : Below W.heap.size W W') : MarksT N0 Ds W' :=
  h.kept fun D o _ hD _ => (hb.block D (kblock_lt hD)).trans hD
theorem MarksT.keepsT {N0 B : Nat} {Ds : List Nat} {W W' : World} (h : MarksT N0 Ds W) (hk : KeepsT B W W') (hB : B ≤ N0) : MarksT N0 Ds W' :=
  h.kept fun D o hd hD hp => hk.same D o (Nat.le_trans hB hd) hD hp
theorem MarksT.cons {N0 D : Nat} {Ds : List Nat} {W : World} (h : MarksT N0 Ds W) (hD : N0 ≤ D) (hn : ¬ D ∈ Ds) (hK : W.heap[D]? = some (.deferred (some []))) : MarksT N0 (D :: Ds) W :=
  ⟨List.nodup_cons.2 ⟨hn, h.1⟩, fun E hE => by
    rcases List.mem_cons.1 hE with rfl | hE
    · exact ⟨hD, hK⟩
    · exact h.2 E hE⟩
theorem MarksT.lt {N0 : Nat} {Ds : List Nat} {W : World} (h : MarksT N0 Ds W) : ∀ D ∈ Ds, D < W.heap.size := fun D hD => kblock_lt (h.2 D hD).2
theorem leaves_marksT {F : Fence} {n : Nat} {P : Program} {fn : Func} {tmps : Array Value} {R : Ending → World → Prop} {N0 : Nat} {I : World → Prop} (hI : ∀ W D, I W → N0 ≤ D → W.heap[D]? = some (.deferred (some [])) → I (W.putObj D (.deferred none))) :
    ∀ (Ds : List Nat) (W : World), MarksT N0 Ds W → I W → (∀ W', I W' → LeavesIn F n P fn tmps R [] .returning W') → LeavesInM F n P fn tmps R (Ds.map markT) .returning W
  | [], W, _, hW, h => h W hW
  | D :: Ds, W, hm, hW, h => by
    have hD := (hm.2 D (by simp)).2
    refine ⟨by simp, .inl ⟨D, W.putObj D (.deferred none), rfl, run_takeDeferred hD, ?_⟩⟩
    refine leaves_marksT hI Ds _ ⟨(List.nodup_cons.1 hm.1).2, fun E hE => ⟨(hm.2 E (by simp [hE])).1, ?_⟩⟩ (hI W D hW (hm.2 D (by simp)).1 hD) h
    rw [World.putObj_heap_other (by intro e; subst e; exact (List.nodup_cons.1 hm.1).1 hE)]
    exact (hm.2 E (by simp [hE])).2
end Go.Proofs.Ytbnkecmhmcligaa

/-
  The opening of an argument of type []name.Name.
-/
namespace Go.Proofs.Ytbnkecmhmcligaa
set_option linter.unusedVariables false
set_option linter.unusedSimpArgs false
set_option maxRecDepth 20000
open Go Go.ChangeShapes Go.WideShapes Go.ChangeAt Go.RowKit Go.Shelf
set_option maxRecDepth 20000
def NmsArg (W : World) (v : Value) (ns : List Nm) : Prop := NmsAt W v ns ∧ ∀ n ∈ ns, n.length ≤ maxLen ∧ ∀ y ∈ n, y.length ≤ maxLen
theorem slo_row {W : World} {x : Addr} {l c : Nat} (f : Nat → Value) (hl : l ≤ c) (hcell : ∀ i, i < c → W.cell? (x.add i) = some (f i)) : SlAt W (.slice (some x) l c) ((List.range l).map f) := by
  refine ⟨some x, c, by simp, by simpa using hl, by simp, ?_⟩
  by_cases h0 : l = 0
  · subst h0; left; simp
  · right
    obtain ⟨b, off, spot⟩ := x
    have hspot : spot = none := by simpa [Addr.add] using World.cell?_spot (hcell 0 (by omega))
    subst hspot
    have hb : b < W.heap.size := by
      have h := hcell 0 (by omega)
      exact World.block_lt_of_cell? W _ (by simpa [Addr.add] using h : W.cell? ⟨b, off, none⟩ = some (f 0))
    refine ⟨b, off, rfl, hb, fun j hj => ?_⟩
    rw [List.length_map, List.length_range] at hj
    rw [← Go.WideShapes.add_plain, hcell j (by omega)]
    simp
variable {H : Type} {enc : TypeId × Value → H} {W : World}
theorem nmso_nm {t : TypeId} (ht : Try.prog.underlying t = some (.slice 9)) {fuel : Nat} {v : Value} {x : DataW H × List MemPlace} (hf : DataW.trod enc Try.prog W 0 (fun _ => true) true fuel t [v] = some x) : ∃ zs, NmArg W v zs := by
  rcases Go.ChangeShapes.open_strings ht Try.underlying9 (by kernel_rfl) hf with ⟨hcs, _⟩ | ⟨x, l, c, zs, hcs, _, hl, hm, hz, _, hcell, hwz⟩
  · simp at hcs
    subst hcs
    exact ⟨[], nmArg_nil W⟩
  · simp at hcs
    subst hcs
    exact ⟨_, nmArg_row hl hm (by simpa using hz) hcell hwz⟩
theorem open_nmss {fuel : Nat} {v : Value} {x : DataW H × List MemPlace} (hf : DataW.trod enc Try.prog W 0 (fun _ => true) true fuel 22 [v] = some x) : ∃ ns : List Nm, NmsArg W v ns := by
  rcases Go.Deep.open_slice1 Try.underlying22 (by kernel_rfl) hf with ⟨hcs, _⟩ | ⟨a, len, cap, m, n, V, D, Pl, hcs, _, hl, hm, hmm, _, hV⟩
  · simp at hcs
    subst hcs
    exact ⟨[], NmsAt.nil W, by simp⟩
  · simp at hcs
    subst hcs
    simp only [if_true] at hmm
    subst hmm
    obtain ⟨F, hF⟩ := Go.Deep.choose_lt (α := Nm) (p := fun i z => NmArg W (V i) z) (fun i hi => nmso_nm Try.underlying28 (hV i hi).2)
    refine ⟨(List.range len).map F, ⟨(List.range len).map V, slo_row V hl (fun i hi => (hV i hi).1), by simp, fun j hj => ?_⟩, ?_⟩
    · simp only [List.length_map, List.length_range] at hj
      simpa using (hF j (by omega)).1
    · intro n hn
      obtain ⟨i, hi, rfl⟩ := List.mem_map.1 hn
      exact (hF i (by have := List.mem_range.1 hi; omega)).2
/-- One of the names. -/
theorem NmsArg.get {v : Value} {ns : List Nm} (h : NmsArg W v ns) {j : Nat} (hj : j < ns.length) : ∃ (g off c : Nat) (a : Option Addr) (n c' : Nat), v = .slice (some ⟨g, off, none⟩) ns.length c ∧ g < W.heap.size ∧ W.cell? ⟨g, off + j, none⟩ = some (.slice a n c') ∧ NmArg W (.slice a n c') ns[j] := by
  obtain ⟨⟨vs, ⟨a, c, e, hc, _, hx⟩, hl, hn⟩, hlen⟩ := h
  rcases hx with hx | ⟨b, off, rfl, hb, hcell⟩
  · subst hx; simp at hl; omega
  · have hjv : j < vs.length := by omega
    obtain ⟨⟨a', c', e', _⟩, _⟩ := id (hn j hjv)
    refine ⟨b, off, c, a', _, c', by rw [e, hl], hb, by rw [hcell j hjv, e'], by rw [← e']; exact hn j hjv, hlen _ (List.getElem_mem hj)⟩
theorem NmsArg.len {v : Value} {ns : List Nm} (h : NmsArg W v ns) : ∃ a c, v = .slice a ns.length c := by
  obtain ⟨⟨vs, ⟨a, c, e, _⟩, hl, _⟩, _⟩ := h
  exact ⟨a, c, by rw [e, hl]⟩
theorem NmArg.below {W W' : World} {v : Value} {n : Nm} (h : NmArg W v n) (hb : Below W.heap.size W W') : NmArg W' v n := ⟨h.1.below hb, h.2⟩
end Go.Proofs.Ytbnkecmhmcligaa

