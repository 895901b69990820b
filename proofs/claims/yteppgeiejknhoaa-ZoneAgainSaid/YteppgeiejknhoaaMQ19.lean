/-
  slices.Index, slices.Contains at ints (a row of natural numbers).
-/
import Derived.Test.YteppgeiejknhoaaMQ38
import Derived.Test.YteppgeiejknhoaaMQ11
import Derived.Test.YteppgeiejknhoaaMQ14
import Derived.Test.YteppgeiejknhoaaMQ17
import Derived.RangeFuncNested
import Derived.Deep.RegionLaw
import Derived.RangeFuncKeeps
import Derived.Deep.RegionHeld3
import Derived.Test.YteppgeiejknhoaaMQ08
import Derived.Test.YteppgeiejknhoaaMQ31
import Derived.Test.YteppgeiejknhoaaMQ16
import Derived.Test.YteppgeiejknhoaaMQ13
namespace Go.Proofs.Yteppgeiejknhoaa
set_option maxRecDepth 20000
open Go.RowKit Go.Shelf
set_option maxRecDepth 20000
set_option linter.unusedVariables false
set_option linter.unusedSimpArgs false
def natV (k : Nat) : Value := .int .i64 (k : Int)
theorem any_take {l : List Nat} {x : Nat} {k : Nat} (h : k < l.length) (hx : ¬ (x : Int) = (l[k] : Int)) (h0 : ¬ x ∈ l.take k) : ¬ x ∈ l.take (k + 1) := by
  rw [List.take_succ_eq_append_getElem h, List.mem_append, List.mem_singleton]
  rintro (h1 | h1)
  · exact h0 h1
  · exact hx (by rw [h1])
set_option maxHeartbeats 4000000 in
theorem index_nat (v : Value) (l : List Nat) (x : Nat) (w : World) (hA : SlAt w v (l.map natV)) (hl : l.length ≤ 1048576) :
    Calls Try.prog 66 #[v, .int .i64 (x : Int)] w fun e w' => (∃ j : Int, e = .returned (.int .i64 j) ∧ (decide (0 ≤ j) = l.contains x)) ∧ w' = w := by
  obtain ⟨a, c, rfl, hx⟩ := id hA
  obtain ⟨n, hn⟩ : ∃ n, (l.map natV).length = n := ⟨_, rfl⟩
  have hn2 : l.length = n := by rw [← hn, List.length_map]
  rw [hn] at hA ⊢
  have hnl : n ≤ 1048576 := by omega
  have HA := Lib.hid hA; have HN := Lib.hid hn2
  clear hx hn hA hl hn2
  go_enter Try.func66, Try.ntmps66
  go_wp2
  go_loop [8] (fun vi => ∃ k : Nat, vi = .int .i64 k ∧ k ≤ n ∧ Hid (¬ x ∈ l.take k)) (fun vi => n - (intOf vi).toNat)
  case atStart => exact ⟨0, rfl, Nat.zero_le _, Lib.hid (by simp)⟩
  case round =>
    obtain ⟨k, rfl, hk, HX⟩ := hrel
    by_cases hlt : k < n
    · have hltz : (k : Int) < (n : Int) := by omega
      have hk2 : k < l.length := by have := HN.out; omega
      obtain ⟨b, off, rfl, hb, hcell⟩ := HA.out.cell (Below.refl _ w) k (by rw [List.length_map]; exact hk2)
      rw [List.getElem_map] at hcell
      unfold natV at hcell
      obtain ⟨y, hy⟩ : ∃ y, l[k]'hk2 = y := ⟨_, rfl⟩
      have HY := Lib.hid hy
      rw [hy] at hcell
      clear hy
      by_cases he : (x : Int) = (y : Int)
      · have hbb : ((x : Int) == (y : Int)) = true := by simpa using he
        have HE := Lib.hid he
        clear he
        go_wp2
        go_ret
        refine ⟨⟨k, rfl, ?_⟩, rfl⟩
        have e1 : x = y := by have := HE.out; omega
        have e2 : x ∈ l := by rw [e1, ← HY.out]; exact List.getElem_mem _
        simpa using e2
      · have hbb : ((x : Int) == (y : Int)) = false := by simpa using he
        have HT := Lib.hid (any_take hk2 (by rw [HY.out]; exact he) HX.out)
        clear he
        go_wp2
        go_round
        case measure => simp [intOf]; omega
        case rel => exact ⟨k + 1, by go_num, by omega, HT⟩
    · obtain rfl : k = n := by omega
      have h := HX.out
      rw [List.take_of_length_le (by have := HN.out; omega)] at h
      have HF := Lib.hid h
      clear h
      go_wp2
      go_ret
      refine ⟨⟨-1, rfl, ?_⟩, rfl⟩
      simpa using HF.out
set_option maxHeartbeats 2000000 in
theorem contains_nat (v : Value) (l : List Nat) (x : Nat) (w : World) (hA : SlAt w v (l.map natV)) (hl : l.length ≤ 1048576) :
    Calls Try.prog 37 #[v, .int .i64 (x : Int)] w fun e w' => e = .returned (.bool (l.contains x)) ∧ w' = w := by
  have hc := index_nat v l x w hA hl
  obtain ⟨q, hq⟩ : ∃ q, l.contains x = q := ⟨_, rfl⟩
  rw [hq] at hc ⊢
  clear hA hl hq
  go_enter Try.func37, Try.ntmps37
  go_wp2_with fail
  refine hc.mono ?_
  rintro e w' ⟨⟨j, rfl, hj⟩, rfl⟩
  have HJ := Lib.hid hj
  clear hj hc
  go_wp2
  go_ret
  exact ⟨by rw [HJ.out]; rfl, rfl⟩
end Go.Proofs.Yteppgeiejknhoaa

/-
  rset.belongs.
-/
namespace Go.Proofs.Yteppgeiejknhoaa
set_option maxRecDepth 20000
open Go.RowKit Go.Shelf
set_option maxRecDepth 20000
set_option linter.unusedVariables false
set_option linter.unusedSimpArgs false

set_option maxRecDepth 100000 in
set_option maxHeartbeats 4000000 in
theorem rset_belongs (a0 : Option Addr) (n0 c0 : Nat) (a1 : Option Addr) (n1 c1 : Nat) (tt : Int) (o : Nm) (t : Int) (cs : List Value) (r : Rc) (w : World) (hO : NmAt w (.slice a0 n0 c0) o) (hko : NmOK o) (hA : RcAt w cs r) (hk : RcOK r) :
    Calls Try.prog 93 #[.agg #[.slice a0 n0 c0, .int .i64 t, .int .u32 tt, .slice a1 n1 c1], .agg cs.toArray] w fun e w' => e = .returned (.bool (belM o t r)) ∧ Below w.heap.size w w' := by
  have hsh := hA.shape
  obtain ⟨⟨p0, q0, k0⟩, ⟨p3, q3, k3⟩, ⟨p4, q4, k4⟩, ⟨p5, q5, k5⟩, ⟨p6, q6, k6⟩, e0⟩ := hsh
  simp only at e0
  subst e0
  have hA1 : NmAt w (.slice p0 q0 k0) r.owner := by
    obtain ⟨_, _, _, _, _, e5, g1, _⟩ := hA
    simp only [List.cons.injEq, and_true] at e5
    rw [e5.1]; exact g1
  have HN := Lib.hid (fun W (hb : Below w.heap.size w W) => kn_NSame (.slice p0 q0 k0) (.slice a0 n0 c0) r.owner o _ rfl W (hA1.below hb) (hO.below hb) hk.1 hko)
  have hR := Lib.hid (show belM o t r = (decide (r.data.ty = t) && sameN r.owner o) from rfl)
  generalize belM o t r = res at *
  generalize sameN r.owner o = q at *
  generalize r.data.ty = x at *
  generalize (r.ttl : Int) = tr at *
  have hb0 := fun o o' => ((Below.refl w.heap.size w).alloc (Nat.le_refl _) o).alloc (o := o') (by simp)
  have hbb := hb0 (Obj.cells #[.slice a0 n0 c0, .int .i64 t, .int .u32 tt, .slice a1 n1 c1] 89) (Obj.cells #[.slice p0 q0 k0, .int .u32 tr, .int .i64 x, .slice p3 q3 k3, .slice p4 q4 k4, .slice p5 q5 k5, .slice p6 q6 k6] 50)
  have hn := HN.out _ hbb
  have HBB := Lib.hid hbb
  clear hbb hb0 HN hA hA1 hO hko hk
  by_cases hx : x = t
  · subst hx
    have HR : Hid (res = q) := Lib.hid (by rw [hR.out]; simp)
    clear hR
    go_enter Try.func93, Try.ntmps93
    go_wp2_with fail
    refine hn.mono ?_
    rintro e w1 ⟨rfl, hb1⟩
    have HB1 := Lib.hid (HBB.out.trans (hb1.mono HBB.out.size))
    clear hb1 hn
    go_wp2
    go_ret
    exact ⟨by rw [HR.out]; rfl, HB1.out⟩
  · have HR : Hid (res = false) := Lib.hid (by rw [hR.out]; simp [hx])
    have hxb : (x == t) = false := by simpa using hx
    clear hR hn
    go_enter Try.func93, Try.ntmps93
    go_wp2
    go_ret
    exact ⟨by rw [HR.out]; rfl, HBB.out⟩
end Go.Proofs.Yteppgeiejknhoaa

/-
  A range over a function whose iterator hands out values that lead into memory of its own making: the round's body is told a fact D of what was yielded, at the yield's world.
-/
namespace Go.Proofs.Yteppgeiejknhoaa
set_option maxRecDepth 20000
open Go Go.RowKit Go.Shelf
set_option linter.unusedVariables false

def SeqStopsD {α : Type} (F : Fence) (n : Nat) (P : Program) (g : Nat) (lb : Array Value) (encs : α → Array Value) (D : α → World → Prop) (Kp : World → World → Prop) (S Sp : List α → Prop) (N : Nat) (w : World) : Prop :=
  ∀ (l : Nat) (J Jx : List α → World → Prop) (W : World), Below w.heap.size w W → AbidesFrom W.heap.size J → AbidesFrom W.heap.size Jx →
    (∀ pre x W1, J pre W1 → D x W1 → pre.length < N → YieldAt F (n - 1) P l (encs x) W1 fun e W' =>
      (e = .returned (.bool true) ∧ J (pre ++ [x]) W' ∧ Kp W1 W') ∨ (e = .returned (.bool false) ∧ Jx (pre ++ [x]) W')) →
    J [] W →
    CallsIn F n P g (#[.func (.yield l) #[] #[]] ++ lb) W fun e W' => (∃ v, e = .returned v) ∧ ((∃ xs, S xs ∧ J xs W') ∨ (∃ pre, Sp pre ∧ Jx pre W'))

/-- The loop's two blocks of its own. -/
structure TwoBk (m : Nat) (r : Loop) (W : World) : Prop where
  lp : W.heap[m + 1]? = some (.loop r)
  dfr : W.heap[m]? = some (.deferred (some []))
theorem TwoBk.lt {m : Nat} {r : Loop} {W : World} (h : TwoBk m r W) : m + 1 < W.heap.size := (Array.getElem?_eq_some_iff.1 h.lp).1
theorem TwoBk.grown {m : Nat} {r : Loop} {W W' : World} {row : Option Nat} (h : TwoBk m r W) (hg : W.grownBy W' row) (hr : ∀ k, row = some k → k ≠ m ∧ k ≠ m + 1) : TwoBk m r W' :=
  ⟨(hg.block _ h.lt (fun e => (hr _ e.symm).2 rfl)).trans h.lp, (hg.block _ (by have := h.lt; omega) (fun e => (hr _ e.symm).1 rfl)).trans h.dfr⟩
theorem TwoBk.walks {m B : Nat} {r : Loop} {W W' : World} {row : Option Nat} (h : TwoBk m r W) (hg : W.grownBy W' row) (hr : ∀ k, row = some k → B ≤ k ∧ ∃ o : Obj, W.heap[k]? = some o ∧ o.isWalk = true) : TwoBk m r W' :=
  h.grown hg fun k e => by
    obtain ⟨_, o, ho, hw⟩ := hr k e
    refine ⟨fun e2 => ?_, fun e2 => ?_⟩
    · subst e2; rw [h.dfr] at ho; cases ho; cases hw
    · subst e2; rw [h.lp] at ho; cases ho; cases hw
theorem TwoBk.kept {m : Nat} {r : Loop} {W W' : World} (h : TwoBk m r W) (hk : KeepsFrom m W W') : TwoBk m r W' := ⟨hk.same _ _ (by omega) h.lp rfl, hk.same _ _ (Nat.le_refl _) h.dfr rfl⟩
theorem TwoBk.turn {m : Nat} {r : Loop} {W : World} (h : TwoBk m r W) (r' : Loop) : TwoBk m r' (W.putObj (m + 1) (.loop r')) := ⟨World.putObj_heap_same h.lt, (World.putObj_heap_other (by omega)).trans h.dfr⟩

variable {F : Fence} {n : Nat} {P : Program}

theorem wpIn_rangeFunc_D {α : Type} {g : Operand} {ps : Array Tmp} {assign body : Code} {Q : Exit → Act → World → Prop} {a : Act} {w : World}
    (hro : F.round = none) (h1 : 1 ≤ n) {gf : Nat} {lb : Array Value} (hg : a.eval g = .func (.func gf) #[] lb) (hFg : F.fn gf) (eg : ∀ args w, (callFunc gf args).run P w = .ok (.enter gf args) w)
    {encs : α → Array Value} {D : α → World → Prop} {Kp : World → World → Prop} {S Sp : List α → Prop} {N : Nat} {w0 : World} (hseq : SeqStopsD F (n - 1) P gf lb encs D Kp S Sp N w0)
    (hKt : ∀ {A B C : World}, Kp A B → Kp B C → Kp A C) (hKb : ∀ (W : World) (l : Nat) (o o' : Obj), w.heap.size ≤ l → W.heap[l]? = some o → o.isCells = false → o.isWalk = false → Kp W (W.putObj l o')) (hb0 : Below w0.heap.size w0 w) (hps : ∀ x, (encs x).size = ps.size)
    (I : List α → World → Prop) (Ix : Code → List α → World → Prop) (hI : OwnFrom w.heap.size I) (hIx : ∀ c, OwnFrom w.heap.size (Ix c)) (h0 : I [] w) (Ax : α → Act → World → Prop) (hAx : ∀ a', OwnFrom w.heap.size (fun x W => Ax x a' W))
    (hassign : ∀ (l : Nat) (pre : List α) (x : α) (W : World) (K : Act → World → Prop), I pre W → D x W → (∀ a' W', KeepsFrom w.heap.size W W' → Kp W W' → I pre W' → Ax x a' W' → K a' W') →
      assign.wpIn (F.inRound l) (n - 1 - 1) P (Exit.then K (fun _ _ _ => False)) { tmps := (ps.zip (encs x)).foldl (fun t (p, v) => t.setIfInBounds p v) a.tmps, defers := [] } W)
    (hbody : ∀ (l : Nat) (pre : List α) (x : α) (a' : Act) (W : World), I pre W → Ax x a' W → pre.length < N → body.wpIn (F.inRound l) (n - 1 - 1) P (ownPostG w.heap.size Kp I Ix (pre ++ [x]) W) a' W)
    (hdone : ∀ (d : Nat) (xs : List α) (W : World), w.heap.size ≤ d → S xs → I xs W → W.heap[d]? = some (.deferred (some [])) → Q .normal { a with defers := { target := .collected d, args := #[] } :: a.defers } W)
    (hstop : ∀ (d : Nat) (c : Code) (pre : List α) (W : World), w.heap.size ≤ d → Sp pre → Ix c pre W → W.heap[d]? = some (.deferred (some [])) → c.wpIn F n P Q { a with defers := { target := .collected d, args := #[] } :: a.defers } W) :
    (Code.rangeFunc g ps assign body).wpIn F n P Q a w := by
  refine wpIn_rangeFunc fun fn hfn => ?_
  rw [hro]
  obtain ⟨m, hm⟩ : ∃ m, w.heap.size = m := ⟨_, rfl⟩
  obtain ⟨R, hR⟩ : ∃ R : LoopState → Option Code → Loop, R = fun st pe => { state := st, pending := pe, fn, tmps := a.tmps, params := ps, assign, body, defers := m } := ⟨_, rfl⟩
  obtain ⟨W1, hW1⟩ : ∃ W1, (w.alloc (.deferred (some []))).alloc (.loop (R .ready none)) = W1 := ⟨_, rfl⟩
  have hsz : W1.heap.size = m + 2 := by rw [← hW1]; simp [hm]
  have hB1 : TwoBk m (R .ready none) W1 := by
    refine ⟨?_, ?_⟩
    · have h := World.alloc_heap_new (w.alloc (.deferred (some []))) (.loop (R .ready none))
      rw [World.size_alloc, hm, hW1] at h; exact h
    · rw [← hW1, ← hm]; exact (Below.heap_alloc _ _ _ (by simp)).trans (World.alloc_heap_new w _)
  have hbw : Below m w W1 := by rw [← hW1, ← hm]; exact ((Below.refl _ w).alloc (Nat.le_refl _) _).alloc (by simp) _
  rw [hm] at hI hKb hassign hbody hdone hstop
  have hAx' : ∀ a', OwnFrom m (fun x W => Ax x a' W) := fun a' => by rw [← hm]; exact hAx a'
  have hIx' : ∀ c, OwnFrom m (Ix c) := fun c => by rw [← hm]; exact hIx c
  have noCells : ∀ {A : World} {row : Option Nat}, (∀ k, row = some k → W1.heap.size ≤ k ∧ ∃ o : Obj, A.heap[k]? = some o ∧ o.isWalk = true) → ∀ k, row = some k → m ≤ k ∧ ∃ o : Obj, A.heap[k]? = some o ∧ o.isCells = false :=
    fun h k e => by obtain ⟨hk, o, ho, hw⟩ := h k e; exact ⟨by omega, o, ho, Obj.not_cells_of_walk hw⟩
  refine ⟨m + 1, [{ target := .collected m, args := #[] }], W1, { target := .fn (.func gf) lb, args := #[.func (.yield (m + 1)) #[] #[]] }, W1, gf, #[.func (.yield (m + 1)) #[] #[]] ++ lb, W1, ?_, ?_, ?_, ?_, fun _ => h1, ?_⟩
  · have h := run_enterLoop_outer (P := P) (w := w) fn a.tmps ps assign body
    rw [hm] at h
    rw [h, ← hW1, hR]
  · simp only [resolve, hg]
    simp [go_sem]
  · intro f' hf'
    simp [Target.leads] at hf'
    subst hf'; exact hFg
  · simp [invoke, go_sem, eg]
  refine (hseq (m + 1) (fun pre W => I pre W ∧ TwoBk m (R .ready none) W) (fun pre W => ∃ c, Ix c pre W ∧ TwoBk m (R .done (some c)) W) W1 (hb0.trans (hbw.mono (by rw [← hm]; exact hb0.size)))
    (fun s A B row hs hgr hr => ⟨hI s A B row hs.1 hgr (noCells hr), hs.2.walks hgr hr⟩)
    (fun s A B row hs hgr hr => by obtain ⟨c, hc, ht⟩ := hs; exact ⟨c, hIx' c s A B row hc hgr (noCells hr), ht.walks hgr hr⟩)
    ?_ ⟨?_, hB1⟩).mono ?_
  · rintro pre x W ⟨hi, ht⟩ hd hlen
    have hy := run_yield (P := P) (args := encs x) ht.lp (by rw [hR]; exact hps x)
    rw [hR] at hy
    refine ⟨fn, _, assign, body, hy, roundIn_of_wpIn hfn (hassign _ pre x W _ hi hd ?_)⟩
    intro a' Wa hka hkpa hia hax
    have hta := ht.kept hka
    obtain ⟨Wb, hWb⟩ : ∃ Wb, Wa.putObj (m + 1) (.loop (R .busy none)) = Wb := ⟨_, rfl⟩
    have hbeg := run_beginRound (P := P) hta.lp (by rw [hR])
    have hbusy : ({ R .ready none with state := .busy } : Loop) = R .busy none := by rw [hR]
    rw [hbusy, hWb] at hbeg
    have htb : TwoBk m (R .busy none) Wb := by rw [← hWb]; exact hta.turn _
    have hib : I pre Wb := by rw [← hWb]; exact hI.putObj _ hia (by omega) hta.lp rfl
    have hab : Ax x a' Wb := by rw [← hWb]; exact (hAx' a').putObj (s := x) _ hax (by omega) hta.lp rfl
    have hkb : Kp W Wb := by rw [← hWb]; exact hKt hkpa (hKb _ _ _ _ (by omega) hta.lp rfl rfl)
    refine ⟨Wb, hbeg, wpIn_mono (hbody _ pre x a' Wb hib hab hlen) ?_⟩
    have fin : ∀ (jump : Option Code) (W3 : World), KeepsFrom m Wb W3 → (Instr.endRound (m + 1) jump).run P W3 = .ok (.bool jump.isNone) (W3.putObj (m + 1) (.loop (R (if jump.isNone then .ready else .done) jump))) ∧ TwoBk m (R .busy none) W3 := fun jump W3 hk => by
      have h3 := htb.kept hk
      have := run_endRound (P := P) jump h3.lp
      rw [hR] at this ⊢
      exact ⟨this, by rw [hR] at h3; exact h3⟩
    have leave : ∀ (c : Code) (W3 : World), KeepsFrom m Wb W3 → Ix c (pre ++ [x]) W3 → ∃ v w', (Instr.endRound (m + 1) (some c)).run P W3 = .ok v w' ∧ ((Ending.returned v = .returned (.bool true) ∧ (I (pre ++ [x]) w' ∧ TwoBk m (R .ready none) w') ∧ Kp W w') ∨ (Ending.returned v = .returned (.bool false) ∧ ∃ c, Ix c (pre ++ [x]) w' ∧ TwoBk m (R .done (some c)) w')) := fun c W3 hk hx => by
      obtain ⟨hr, h3⟩ := fin (some c) W3 hk
      exact ⟨_, _, hr, .inr ⟨rfl, c, (hIx' c).putObj _ hx (by omega) h3.lp rfl, h3.turn _⟩⟩
    intro e a3 W3 hp
    cases e with
    | normal =>
      obtain ⟨hk, hkp, hi3⟩ := hp
      obtain ⟨hr, h3⟩ := fin none W3 hk
      exact ⟨_, _, hr, .inl ⟨rfl, ⟨hI.putObj _ hi3 (by omega) h3.lp rfl, h3.turn _⟩, hKt hkb (hKt hkp (hKb _ _ _ _ (by omega) h3.lp rfl rfl))⟩⟩
    | ret => exact leave _ _ hp.1 hp.2
    | exit id => exact leave _ _ hp.1 hp.2
    | goto t => exact leave _ _ hp.1 hp.2
    | panic ch => exact hp.elim
    | outgrown => exact hp.elim
  · rw [← hW1]; exact hI.alloc _ (hI.alloc _ h0)
  · rintro e W2 ⟨⟨v, rfl⟩, (⟨xs, hS, hi, ht⟩ | ⟨pre, hSp, c, hi, ht⟩)⟩
    · have h := run_endLoop (P := P) ht.lp (by rw [hR]; simp)
      rw [hR] at h
      exact ⟨none, _, h, hdone m xs _ (Nat.le_refl _) hS (hI.putObj _ hi (by omega) ht.lp rfl) ((World.putObj_heap_other (by omega)).trans ht.dfr)⟩
    · have h := run_endLoop (P := P) ht.lp (by rw [hR]; simp)
      rw [hR] at h
      exact ⟨some c, _, h, hstop m c pre _ (Nat.le_refl _) hSp ((hIx' c).putObj _ hi (by omega) ht.lp rfl) ((World.putObj_heap_other (by omega)).trans ht.dfr)⟩
end Go.Proofs.Yteppgeiejknhoaa

/-
  Rows of k cells: literals, pieces, a store into one cell, appends in a drawn region.
-/
namespace Go.Proofs.Yteppgeiejknhoaa
set_option maxRecDepth 20000
open Go.RowKit Go.Shelf
set_option maxRecDepth 20000
set_option linter.unusedVariables false
set_option linter.unusedSimpArgs false

theorem slAt_blk {W : World} {g : Nat} {l : List Value} {T : TypeId} (h : W.heap[g]? = some (.cells l.toArray T)) : SlAt W (.slice (some ⟨g, 0, none⟩) l.length l.length) l := by
  refine ⟨_, _, rfl, Nat.le_refl _, (fun e => by cases e), .inr ⟨g, 0, rfl, kblock_lt h, fun j hj => ?_⟩⟩
  have := kcell h j l[j] (by simp)
  rw [Nat.zero_add]; exact this
theorem slK_blk {W : World} {g : Nat} {css : List (List Value)} {T : TypeId} (h : W.heap[g]? = some (.cells css.flatten.toArray T)) : SlK W (.slice (some ⟨g, 0, none⟩) css.length css.length) css := by
  refine ⟨_, _, rfl, Nat.le_refl _, (fun e => by cases e), .inr ⟨g, 0, rfl, kblock_lt h, fun j u hj => ?_⟩⟩
  have := kcell h j u (by simpa using hj)
  rw [Nat.zero_add]; exact this
theorem flatten_set (K t : Nat) (u : Value) (ht : t < K) : ∀ (css : List (List Value)), (∀ cs ∈ css, cs.length = K) → ∀ (k : Nat) (h : k < css.length), (css.set k (css[k].set t u)).flatten = css.flatten.set (k * K + t) u
  | [], _, k, h => by simp at h
  | c :: r, hk, 0, _ => by
    have hc := hk c (by simp)
    simp only [List.getElem_cons_zero, List.set_cons_zero, List.flatten_cons, Nat.zero_mul, Nat.zero_add]
    rw [List.set_append_left t u (by omega)]
  | c :: r, hk, k + 1, h => by
    have hc := hk c (by simp)
    have ih := flatten_set K t u ht r (fun cs hcs => hk cs (by simp [hcs])) k (by simpa using h)
    simp only [List.getElem_cons_succ, List.set_cons_succ, List.flatten_cons]
    rw [ih, Nat.add_mul, Nat.one_mul]
    rw [List.set_append_right ((k * K + K + t)) u (by omega)]
    congr 2
    omega
theorem OwnC.put {T : TypeId} {W : World} {base g n c : Nat} {css : List (List Value)} (h : OwnC 7 T W base (.slice (some ⟨g, 0, none⟩) n c) css) (hk : ∀ cs ∈ css, cs.length = 7) (k : Nat) (hlt : k < css.length) (t : Nat) (ht : t < 7) (u : Value) :
    OwnC 7 T (W.setCell ⟨g, k * 7 + t, none⟩ u) base (.slice (some ⟨g, 0, none⟩) n c) (css.set k (css[k].set t u)) := by
  obtain ⟨hl, h⟩ := h
  rcases h with ⟨e, _⟩ | ⟨g', cap, cur, e, hb, hg, hc, hm, hsz, htk⟩
  · cases e
  · cases e
    have hfl : ((css.set k (css[k].set t u)).flatMap fun cs => cs) = (css.flatMap fun cs => cs).set (k * 7 + t) u := by
      rw [flat_id, flat_id, flatten_set 7 t u ht css hk k hlt]
    refine ⟨by rw [hfl, List.length_set, List.length_set]; exact hl, .inr ⟨g, c, cur.setIfInBounds (k * 7 + t) u, by rw [List.length_set], hb, kset hg _ u, by rw [List.length_set]; exact hc, hm, by simpa using hsz, ?_⟩⟩
    rw [hfl, List.length_set, ← htk, Array.toList_setIfInBounds]
    rw [List.take_set]
theorem SlK.takeK {W : World} {a : Option Addr} {n c : Nat} {css : List (List Value)} (h : SlK W (.slice a n c) css) (k : Nat) (hk : k ≤ n) : SlK W (.slice a k c) (css.take k) := by
  obtain ⟨a', c', e, h1, h2, h3⟩ := h
  cases e
  have hl : (css.take k).length = k := by rw [List.length_take]; omega
  refine ⟨a, c, by rw [hl], by rw [hl]; omega, h2, ?_⟩
  rcases h3 with h3 | ⟨b, off, e, hlt, hc⟩
  · left; rw [h3]; simp
  · right
    refine ⟨b, off, e, hlt, fun j u hj => hc j u ?_⟩
    have hsplit : css.flatten = (css.take k).flatten ++ (css.drop k).flatten := by rw [← List.flatten_append, List.take_append_drop]
    rw [hsplit, List.getElem?_append_left (List.getElem?_eq_some_iff.1 hj).1]
    exact hj
theorem SlK.dropK {W : World} {b off n c : Nat} {css : List (List Value)} (h : SlK W (.slice (some ⟨b, off, none⟩) n c) css) (h7 : ∀ cs ∈ css, cs.length = 7) (k : Nat) (hk : k ≤ n) : SlK W (.slice (some ⟨b, off + k * 7, none⟩) (n - k) (c - k)) (css.drop k) := by
  obtain ⟨a', c', e, h1, h2, h3⟩ := h
  cases e
  have hl : (css.drop k).length = css.length - k := List.length_drop
  refine ⟨_, _, by rw [hl], by rw [hl]; omega, (fun e => by cases e), ?_⟩
  rcases h3 with h3 | ⟨b', off', e, hlt, hc⟩
  · left; rw [h3]; simp
  · cases e
    right
    refine ⟨b, off + k * 7, rfl, hlt, fun j u hj => ?_⟩
    rw [Nat.add_assoc]
    refine hc _ _ ?_
    have hsplit : css.flatten = (css.take k).flatten ++ (css.drop k).flatten := by rw [← List.flatten_append, List.take_append_drop]
    have hz : (css.take k).flatten.length = k * 7 := by
      rw [flat_len _ (fun cs hcs => h7 cs (List.mem_of_mem_take hcs)), List.length_take]; congr 1; omega
    rw [hsplit, List.getElem?_append_right (by omega), hz, Nat.add_sub_cancel_left]
    exact hj
/-- append of a whole row to one of the call's own, as one operation. -/
theorem wp_append_slk {S T : TypeId} {k bytes : Nat} {o : Oper} {a : Act} {K : Act → World → Prop} {Q : Exit → Act → World → Prop} (W : World) (s x : Operand) (hE : ElemK k T S bytes) (hk0 : 0 < k)
    (ho : o.op = .call { callee := .builtin .append, args := #[s, x], argTypes := #[S, S] })
    (base : Nat) (v : Value) (xs : List (List Value)) (hs : a.eval s = v) (hown : OwnC k T W base v xs)
    (src : Value) (ys : List (List Value)) (hx : a.eval x = src) (hsrc : SlK W src ys) (hyk : ∀ cs ∈ ys, cs.length = k) (hy1 : ∀ cs ∈ ys, ∀ u ∈ cs, u.oneCell' = true)
    (hbase : base ≤ W.heap.size) (hk : xs.length + ys.length ≤ maxLen) (hk2 : (xs.length + ys.length) * bytes ≤ 140737488355328)
    (h : ∀ v' w', OwnC k T w' base v' (xs ++ ys) → W.grownBy w' v.ownBlock → K (a.put o.dst v') w') :
    o.wp Try.prog a W K Q := by
  obtain ⟨ht, i, z, hi, hz, hz1, hz2, hzc⟩ := hE
  obtain ⟨a0, c0, rfl, h1, h2, h3⟩ := hsrc
  have hlen := flat_len ys hyk
  cases a0 with
  | none =>
    have e3 := h2 rfl
    subst e3
    have e4 : ys = [] := List.eq_nil_of_length_eq_zero (by omega)
    subst e4
    have hrun := run_append_owned_none (P := Try.prog) (w := W) base S o.type _ i k ht hi v _ _ hown
    have hK := h v W (by rw [List.append_nil]; exact hown) ⟨rfl, rfl, rfl, Nat.le_refl _, fun _ _ _ => rfl⟩
    unfold Oper.wp
    simp [execOp, ho, resolve, invoke, builtin, hs, hx, hrun, Result.andThen]
    exact hK
  | some ad =>
    have hcell : ∀ j u, ys.flatten[j]? = some u → W.cell? (ad.add j) = some u := by
      intro j u hj
      rcases h3 with h3 | ⟨b, off, ea, _, hc⟩
      · subst h3; simp at hj
      · cases ea; rw [Addr.add_lit]; exact hc j u hj
    refine wp_append_own W s x S ho base _ i z k bytes ht hi hz hz1 hz2 hzc hk0 v xs.length (xs.flatMap fun cs => cs) hs hown ad ys.length c0 ys.flatten hx hlen hcell (by intro u hu; obtain ⟨y, hy, hu⟩ := List.mem_flatten.1 hu; exact hy1 y hy u hu) hk hk2 hbase ?_
    intro v' w' g1 g2 _
    refine h v' w' ?_ g2
    unfold OwnC OwnK
    rw [List.length_append, List.flatMap_append, flat_id ys]
    exact g1
theorem step_append_slk {S T : TypeId} {k bytes : Nat} {ops : Array Oper} {o : Oper} {a : Act} {K : Act → World → Prop} {Q : Exit → Act → World → Prop} {E : Prop} (W : World) (hgd : o.guard = none) (s x : Operand) (hE : ElemK k T S bytes) (hk0 : 0 < k)
    (ho : o.op = .call { callee := .builtin .append, args := #[s, x], argTypes := #[S, S] })
    (base : Nat) (v : Value) (xs : List (List Value)) (hs : a.eval s = v) (hown : OwnC k T W base v xs)
    (src : Value) (ys : List (List Value)) (hx : a.eval x = src) (hsrc : SlK W src ys) (hyk : ∀ cs ∈ ys, cs.length = k) (hy1 : ∀ cs ∈ ys, ∀ u ∈ cs, u.oneCell' = true)
    (hbase : base ≤ W.heap.size) (hk : xs.length + ys.length ≤ maxLen) (hk2 : (xs.length + ys.length) * bytes ≤ 140737488355328)
    (h : ∀ v' w', OwnC k T w' base v' (xs ++ ys) → W.grownBy w' v.ownBlock → K (a.put o.dst v') w') :
    if Region.wanted o (yielded ops a.tmps) = true then Oper.wp Try.prog o a W K Q else E := by
  have hw : Region.wanted o (yielded ops a.tmps) = true := by simp [Region.wanted, hgd]
  rw [if_pos hw]
  exact wp_append_slk W s x hE hk0 ho base v xs hs hown src ys hx hsrc hyk hy1 hbase hk hk2 h
end Go.Proofs.Yteppgeiejknhoaa

/-
  rec.runs as an iterator: a row run by run. (Written by wip/tools/genrun.py.)
-/
namespace Go.Proofs.Yteppgeiejknhoaa
set_option maxRecDepth 20000
open Go.RowKit Go.Shelf
set_option maxRecDepth 20000
set_option linter.unusedVariables false
set_option linter.unusedSimpArgs false

/-- A run of a row of n. -/
abbrev Seg (n : Nat) := { x : Nat × Nat // x.1 < x.2 ∧ x.2 ≤ n }
def segV (g off c : Nat) {n : Nat} (x : Seg n) : Array Value := #[.slice (some ⟨g, off + x.1.1 * 7, none⟩) (x.1.2 - x.1.1) (c - x.1.1)]
/-- What the iterator needs of a world. -/
structure RunW (b1 b2 : Nat) (a : Option Addr) (g off n c : Nat) (css : List (List Value)) (rs : List Rc) (Kp : World → World → Prop) (R : World → Prop) : Prop where
  c1 : ∀ W, R W → W.cell? ⟨b1, 0, none⟩ = some (.slice a n c)
  c2 : ∀ W, R W → W.cell? ⟨b2, 0, none⟩ = some (.func (.func 42) #[] #[])
  ha : 0 < n → a = some ⟨g, off, none⟩
  el : ∀ W, R W → ∀ k (hlt : k < css.length) (u0 u1 u2 u3 u4 u5 u6 : Value), css[k] = [u0, u1, u2, u3, u4, u5, u6] →
      W.cell? ⟨g, off + k * 7, none⟩ = some u0 ∧ W.cell? ⟨g, off + k * 7 + 1, none⟩ = some u1 ∧ W.cell? ⟨g, off + k * 7 + 2, none⟩ = some u2 ∧ W.cell? ⟨g, off + k * 7 + 3, none⟩ = some u3 ∧ W.cell? ⟨g, off + k * 7 + 4, none⟩ = some u4 ∧ W.cell? ⟨g, off + k * 7 + 5, none⟩ = some u5 ∧ W.cell? ⟨g, off + k * 7 + 6, none⟩ = some u6
  same : ∀ W, R W → ∀ i j (hi : i < css.length) (hj : j < css.length) (hi' : i < rs.length) (hj' : j < rs.length), Calls Try.prog 42 #[.agg css[i].toArray, .agg css[j].toArray] W fun e W' => e = .returned (.bool (sameR rs[i] rs[j])) ∧ Below W.heap.size W W'
  below : ∀ W W', R W → Below W.heap.size W W' → R W'
  kp : ∀ W W', R W → Kp W W' → R W'
  shape : ∀ k (hk : k < css.length), ∃ (t x : Int) (x0 x3 x4 x5 x6 : Option Addr × Nat × Nat), css[k] = [.slice x0.1 x0.2.1 x0.2.2, .int .u32 t, .int .i64 x, .slice x3.1 x3.2.1 x3.2.2, .slice x4.1 x4.2.1 x4.2.2, .slice x5.1 x5.2.1 x5.2.2, .slice x6.1 x6.2.1 x6.2.2]
theorem below_drew0 (W : World) : Below W.heap.size W W.drew := ⟨rfl, rfl, rfl, Nat.le_refl _, fun _ _ => rfl⟩
section
attribute [local go_sem] Oper.semAt_some
set_option maxRecDepth 100000 in
set_option maxHeartbeats 8000000 in
theorem runs1_in (nf : Nat) (hnf : 3 ≤ nf) (l b1 b2 : Nat) (a : Option Addr) (g off n c : Nat) (hnc : n ≤ c) (hn63 : n ≤ 1000000000000) (css : List (List Value)) (rs : List Rc) (hcl : css.length = n) (hrl : rs.length = n) (Kp : World → World → Prop) (R : World → Prop) (H : RunW b1 b2 a g off n c css rs Kp R)
    (J Jx : List (Seg n) → World → Prop) (hJ : ∀ pre W W', J pre W → Below W.heap.size W W' → J pre W')
    (hY : ∀ pre x W, J pre W → pre.length < n → YieldAt Fence.wide (nf - 1) Try.prog l (segV g off c x) W fun e W' =>
      (e = .returned (.bool true) ∧ J (pre ++ [x]) W' ∧ Kp W W') ∨ (e = .returned (.bool false) ∧ Jx (pre ++ [x]) W'))
    (W : World) (hR : R W) (h0 : J [] W) :
    CallsIn Fence.wide nf Try.prog 82 #[.func (.yield l) #[] #[], .pointer (some ⟨b1, 0, none⟩), .pointer (some ⟨b2, 0, none⟩)] W fun e W' => (∃ v, e = .returned v) ∧
      ((∃ ys : List (Seg n), ys.map (·.1) = segs rs ∧ J ys W') ∨ (∃ pre : List (Seg n), Jx pre W')) := by
  have hn1' : 1 ≤ nf := by omega
  have HJJ := Lib.hid hJ
  have HCL := Lib.hid hcl; have HRL := Lib.hid hrl
  clear hJ
  have HR0 := Lib.hid hR
  have HJ0 := Lib.hid h0
  clear hR h0
  refine callsIn_of_wp Try.func82 rfl trivial ?_ rfl
  simp only [Try.ntmps82, List.size_toArray, List.length_cons, List.length_nil, Nat.reduceAdd, Nat.reduceSub, Array.replicate_succ, Array.replicate_zero, List.push_toArray, List.append_toArray, List.nil_append, List.cons_append]
  gi_wp2
  gi_loopw [4] (fun v4 wr => ∃ (s : Nat) (pre : List (Seg n)), v4 = .int .i64 s ∧ s ≤ n ∧ Hid (pre.map (·.1) ++ leftM rs s = segs rs ∧ pre.length ≤ s) ∧ Hid (J pre wr) ∧ Hid (R wr))
    (fun v4 _ => n - (intOf v4).toNat)
  case atStart => exact ⟨0, [], rfl, Nat.zero_le _, Lib.hid ⟨rfl, Nat.zero_le _⟩, HJ0, HR0⟩
  case round =>
    obtain ⟨s, pre, rfl, hs, HP, HJ, HR⟩ := hrel
    have hc0 := H.c1 _ HR.out
    by_cases hlt : s < n
    · have ha := H.ha (by omega)
      subst ha
      have hltz : (s : Int) < (n : Int) := by omega
      have hsr : s < rs.length := by omega
      have HRJ0 := Lib.hid (And.intro HR.out HJ.out)
      clear HR HJ
      gi_wp2
      clear hc0
      rename World => w1
      gi_loopw [5] (fun v5 wr => ∃ (e : Nat), v5 = .int .i64 e ∧ s + 1 ≤ e ∧ e ≤ n ∧ Hid (e ≤ nxtM rs s) ∧ Hid (R wr ∧ J pre wr))
        (fun v5 _ => n - (intOf v5).toNat)
      case atStart => exact ⟨s + 1, by go_num, Nat.le_refl _, by omega, Lib.hid (by have := nxtM_lt hsr; omega), HRJ0⟩
      case round =>
        obtain ⟨e, rfl, he1, he2, HE, HRJ⟩ := hrel
        have hne : Nonempty (WIn (fun W => R W ∧ J pre W)) := ⟨⟨_, HRJ.out⟩⟩
        have k1 : ∀ p : WIn (fun W => R W ∧ J pre W), p.w.cell? ⟨b1, 0, none⟩ = some (.slice (some ⟨g, off, none⟩) n c) := fun p => H.c1 _ p.ok.1
        have k2 : ∀ p : WIn (fun W => R W ∧ J pre W), p.w.cell? ⟨b2, 0, none⟩ = some (.func (.func 42) #[] #[]) := fun p => H.c2 _ p.ok.1
        have HD : Hid (∀ W, R W ∧ J pre W → ∀ W', Below W.heap.size W W' → R W' ∧ J pre W') := Lib.hid fun W h W' hb => ⟨H.below _ _ h.1 hb, HJJ.out _ _ _ h.2 hb⟩
        by_cases hen : e < n
        · have henz : (e : Int) < (n : Int) := by omega
          obtain ⟨t0, y0, ⟨p0, q0, r0⟩, ⟨p3, q3, r3⟩, ⟨p4, q4, r4⟩, ⟨p5, q5, r5⟩, ⟨p6, q6, r6⟩, e0⟩ := H.shape s (by omega)
          obtain ⟨t1, y1, ⟨p0', q0', r0'⟩, ⟨p3', q3', r3'⟩, ⟨p4', q4', r4'⟩, ⟨p5', q5', r5'⟩, ⟨p6', q6', r6'⟩, e1⟩ := H.shape e (by omega)
          simp only at e0 e1
          have f0 := fun p : WIn (fun W => R W ∧ J pre W) => (H.el _ p.ok.1 s (by omega) _ _ _ _ _ _ _ e0)
          have f1 := fun p : WIn (fun W => R W ∧ J pre W) => (H.el _ p.ok.1 e (by omega) _ _ _ _ _ _ _ e1)
          have g0 := fun p => (f0 p).1; have g1 := fun p => (f0 p).2.1; have g2 := fun p => (f0 p).2.2.1; have g3 := fun p => (f0 p).2.2.2.1; have g4 := fun p => (f0 p).2.2.2.2.1; have g5 := fun p => (f0 p).2.2.2.2.2.1; have g6 := fun p => (f0 p).2.2.2.2.2.2
          have j0 := fun p => (f1 p).1; have j1 := fun p => (f1 p).2.1; have j2 := fun p => (f1 p).2.2.1; have j3 := fun p => (f1 p).2.2.2.1; have j4 := fun p => (f1 p).2.2.2.2.1; have j5 := fun p => (f1 p).2.2.2.2.2.1; have j6 := fun p => (f1 p).2.2.2.2.2.2
          have hcg := fun p : WIn (fun W => R W ∧ J pre W) => CallsIn.cls (C := fun W => R W ∧ J pre W) (callsIn_wide (n := nf - 1) |>.2 ((H.same _ p.ok.1 s e (by omega) (by omega) (by omega) (by omega)).mono fun _ _ ⟨hq, hb⟩ => ⟨hq, HD.out _ p.ok _ hb⟩))
          rw [e0, e1] at hcg
          obtain ⟨sm, hsm⟩ : ∃ sm, sameR (rs[s]'(by omega)) (rs[e]'(by omega)) = sm := ⟨_, rfl⟩
          rw [hsm] at hcg
          have HSM := Lib.hid hsm
          have hn1 : 1 ≤ nf - 1 := by omega
          clear f0 f1 e0 e1 hsm
          cases sm
          · have HWHY : Hid (e = rs.length ∨ ∃ he : e < rs.length, sameR (rs[s]'hsr) (rs[e]'he) = false) := Lib.hid (Or.inr ⟨by omega, HSM.out⟩)
            gi_wp2_with fail
            refine wpIn_region_cls (fun W => R W ∧ J pre W) rfl follows_mixed (by kernel_rfl) (HD.out _ HRJ.out _ (below_drew0 _)) ?_
            repeat (gi_big_quiet_step (fail))
            refine wpQuietIn_step (fun _ _ _ _ => trivial) (fun K hK => ?_)
            go_simp
            apply Exists.intro
            refine ⟨fun q => (by first | exact hcg q | exact ⟨fun _ => (by omega), hcg q⟩), hK _ ?_⟩
            clear hK K
            repeat (gi_big_quiet_step (fail))
            refine wpQuietIn_nil ?_
            rintro _ ⟨p, rfl⟩
            have HRJ := Lib.hid p.ok
            clear k1 k2 g0 g1 g2 g3 g4 g5 g6 j0 j1 j2 j3 j4 j5 j6 hcg
            have hcs : ¬ c = s := by omega
            have hnx := nxtM_stop (rs := rs) (s := s) (e := e) (by omega) he1 HE.out (HWHY.out)
            obtain ⟨HRp, hJp⟩ := HRJ.out
            have hx : s < e ∧ e ≤ n := ⟨by omega, by omega⟩
            obtain ⟨fn, tmps, assign, body, hy, hR⟩ := hY pre ⟨(s, e), hx⟩ p.w hJp (by have := HP.out.2; omega)
            unfold segV at hy
            simp only at hy
            have hc1 := H.c1 _ HRp
            have HRR := Lib.hid hR
            have HNX := Lib.hid hnx
            have HX := Lib.hid hx
            have HRP := Lib.hid HRp
            have hse : (s : Int) ≤ (e : Int) := by omega
            have hec : (e : Int) ≤ (c : Int) := by omega
            have hes : ((e : Int) - (s : Int)).toNat = e - s := by omega
            have hcz : ((c : Int) - (s : Int)).toNat = c - s := by omega
            clear hR hnx HRp hJp HRJ
            gi_wp2
            refine HRR.out.mono ?_
            rintro e' W3 (⟨rfl, hJ3, hk3⟩ | ⟨rfl, hJx3⟩)
            · have HR3 := Lib.hid (H.kp _ _ HRP.out hk3)
              have HJ3 := Lib.hid hJ3
              clear hJ3 hk3 HRR
              gi_wp2
              go_roundw
              case measure => simp [intOf]; omega
              case rel =>
                refine ⟨e, pre ++ [⟨(s, e), HX.out⟩], rfl, by omega, Lib.hid ⟨?_, by have := HP.out.2; simp; omega⟩, HJ3, HR3⟩
                have hp := HP.out.1
                rw [leftM_step (by omega), ← HNX.out] at hp
                simpa using hp
            · gi_wp2
              refine bodyPost_ret (results_none rfl _ _ _) rfl ?_
              exact ⟨⟨_, rfl⟩, .inr ⟨_, hJx3⟩⟩
          · have hmo : e + 1 ≤ nxtM rs s := nxtM_more hsr he1 HE.out (by omega) HSM.out
            have HMO := Lib.hid hmo
            clear hmo
            gi_wp2_with fail
            refine wpIn_region_cls (fun W => R W ∧ J pre W) rfl follows_mixed (by kernel_rfl) (HD.out _ HRJ.out _ (below_drew0 _)) ?_
            repeat (gi_big_quiet_step (fail))
            refine wpQuietIn_step (fun _ _ _ _ => trivial) (fun K hK => ?_)
            go_simp
            apply Exists.intro
            refine ⟨fun q => (by first | exact hcg q | exact ⟨fun _ => (by omega), hcg q⟩), hK _ ?_⟩
            clear hK K
            repeat (gi_big_quiet_step (fail))
            refine wpQuietIn_nil ?_
            rintro _ ⟨p, rfl⟩
            have HRJ := Lib.hid p.ok
            clear k1 k2 g0 g1 g2 g3 g4 g5 g6 j0 j1 j2 j3 j4 j5 j6 hcg
            gi_wp2
            go_roundw
            case measure => simp [intOf]; omega
            case rel => exact ⟨e + 1, by go_num, by omega, by omega, HMO, HRJ⟩
        · obtain rfl : n = e := by omega
          have HWHY : Hid (n = rs.length ∨ ∃ he : n < rs.length, sameR (rs[s]'hsr) (rs[n]'he) = false) := Lib.hid (Or.inl (by omega))
          gi_wp2_with fail
          refine wpIn_region_cls (fun W => R W ∧ J pre W) rfl follows_mixed (by kernel_rfl) (HD.out _ HRJ.out _ (below_drew0 _)) ?_
          repeat (gi_big_quiet_step (fail))
          refine wpQuietIn_step (fun _ _ _ _ => trivial) (fun K hK => ?_)
          go_simp
          refine hK _ ?_
          clear hK K
          repeat (gi_big_quiet_step (fail))
          refine wpQuietIn_nil ?_
          rintro _ ⟨p, rfl⟩
          have HRJ := Lib.hid p.ok
          clear k1 k2
          have hcs : ¬ c = s := by omega
          have hnx := nxtM_stop (rs := rs) (s := s) (e := n) (by omega) he1 HE.out (HWHY.out)
          obtain ⟨HRp, hJp⟩ := HRJ.out
          have hx : s < n ∧ n ≤ n := ⟨by omega, by omega⟩
          obtain ⟨fn, tmps, assign, body, hy, hR⟩ := hY pre ⟨(s, n), hx⟩ p.w hJp (by have := HP.out.2; omega)
          unfold segV at hy
          simp only at hy
          have hc1 := H.c1 _ HRp
          have HRR := Lib.hid hR
          have HNX := Lib.hid hnx
          have HX := Lib.hid hx
          have HRP := Lib.hid HRp
          have hse : (s : Int) ≤ (n : Int) := by omega
          have hec : (n : Int) ≤ (c : Int) := by omega
          have hes : ((n : Int) - (s : Int)).toNat = n - s := by omega
          have hcz : ((c : Int) - (s : Int)).toNat = c - s := by omega
          clear hR hnx HRp hJp HRJ
          gi_wp2
          refine HRR.out.mono ?_
          rintro e' W3 (⟨rfl, hJ3, hk3⟩ | ⟨rfl, hJx3⟩)
          · have HR3 := Lib.hid (H.kp _ _ HRP.out hk3)
            have HJ3 := Lib.hid hJ3
            clear hJ3 hk3 HRR
            gi_wp2
            go_roundw
            case measure => simp [intOf]; omega
            case rel =>
              refine ⟨n, pre ++ [⟨(s, n), HX.out⟩], rfl, by omega, Lib.hid ⟨?_, by have := HP.out.2; simp; omega⟩, HJ3, HR3⟩
              have hp := HP.out.1
              rw [leftM_step (by omega), ← HNX.out] at hp
              simpa using hp
          · gi_wp2
            refine bodyPost_ret (results_none rfl _ _ _) rfl ?_
            exact ⟨⟨_, rfl⟩, .inr ⟨_, hJx3⟩⟩
    · obtain rfl : s = n := by omega
      gi_wp2
      go_end0
      have hp := HP.out.1
      rw [leftM_end rs (by omega), List.append_nil] at hp
      exact ⟨⟨_, rfl⟩, .inl ⟨pre, hp, HJ.out⟩⟩
end
end Go.Proofs.Yteppgeiejknhoaa

/-
  rset.sets as an iterator: a row set by set. (Written by wip/tools/gensetb.py.)
-/
namespace Go.Proofs.Yteppgeiejknhoaa
set_option maxRecDepth 20000
open Go.RowKit Go.Shelf
set_option maxRecDepth 20000
set_option linter.unusedVariables false
set_option linter.unusedSimpArgs false

/-- A piece of a row of n, and where its data lie. -/
abbrev SegD (n : Nat) := { x : (Nat × Nat) × (Option Addr × Nat) // x.1.1 < x.1.2 ∧ x.1.2 ≤ n }
def rcZ : Rc := ⟨[], 0, ⟨0, [], [], [], []⟩⟩
/-- The data cells of a piece. -/
def dcs (css : List (List Value)) (s e : Nat) : List (List Value) := ((css.drop s).take (e - s)).map fun cs => cs.drop 2
def ttlS (rs : List Rc) (s e : Nat) : Nat := leastM (rs.getD s rcZ).ttl ((rs.drop s).take (e - s))
def setV (vo : Nat → Value) (rs : List Rc) {n : Nat} (x : SegD n) : Array Value :=
  #[.agg #[vo x.1.1.1, .int .i64 (rs.getD x.1.1.1 rcZ).data.ty, .int .u32 (ttlS rs x.1.1.1 x.1.1.2 : Int), .slice x.1.2.1 (x.1.1.2 - x.1.1.1) x.1.2.2]]
def DatO (base : Nat) (css : List (List Value)) {n : Nat} (x : SegD n) (W : World) : Prop := OwnC 5 48 W base (.slice x.1.2.1 (x.1.1.2 - x.1.1.1) x.1.2.2) (dcs css x.1.1.1 x.1.1.2)
theorem dcs_len {css : List (List Value)} {s e : Nat} (h : e ≤ css.length) : (dcs css s e).length = e - s := by unfold dcs; rw [List.length_map, List.length_take, List.length_drop]; omega
theorem dcs_snoc {css : List (List Value)} {s e : Nat} (h1 : s ≤ e) (h2 : e < css.length) : dcs css s (e + 1) = dcs css s e ++ [css[e].drop 2] := by
  unfold dcs
  obtain ⟨j, rfl⟩ : ∃ j, e = s + j := ⟨e - s, by omega⟩
  rw [show s + j + 1 - s = j + 1 by omega, show s + j - s = j by omega, List.take_succ_eq_append_getElem (by rw [List.length_drop]; omega), List.map_append]
  simp
theorem ttlS_self {rs : List Rc} {s : Nat} : ttlS rs s s = (rs.getD s rcZ).ttl := by unfold ttlS; rw [Nat.sub_self]; rfl
theorem ttlS_snoc {rs : List Rc} {s e : Nat} (h1 : s ≤ e) (h2 : e < rs.length) : ttlS rs s (e + 1) = minT (ttlS rs s e) rs[e].ttl := by
  unfold ttlS
  obtain ⟨j, rfl⟩ : ∃ j, e = s + j := ⟨e - s, by omega⟩
  rw [show s + j + 1 - s = j + 1 by omega, show s + j - s = j by omega, List.take_succ_eq_append_getElem (by rw [List.length_drop]; omega), leastM_snoc]
  simp
theorem getD_rs {rs : List Rc} {s : Nat} (h : s < rs.length) : rs.getD s rcZ = rs[s] := by simp [List.getD, h]
theorem elem_dat : ElemK 5 48 58 104 := ⟨Try.underlying58, _, _, rfl, rfl, rfl, rfl, rfl⟩
/-- What the iterator needs of a world. -/
structure SetW (b1 : Nat) (a : Option Addr) (g off n c : Nat) (css : List (List Value)) (rs : List Rc) (vo vn vu vt vr : Nat → Option Addr × Nat × Nat) (Kp : World → World → Prop) (R : World → Prop) : Prop where
  c1 : ∀ W, R W → W.cell? ⟨b1, 0, none⟩ = some (.slice a n c)
  ha : 0 < n → a = some ⟨g, off, none⟩
  el : ∀ W, R W → ∀ k (hlt : k < css.length) (u0 u1 u2 u3 u4 u5 u6 : Value), css[k] = [u0, u1, u2, u3, u4, u5, u6] →
      W.cell? ⟨g, off + k * 7, none⟩ = some u0 ∧ W.cell? ⟨g, off + k * 7 + 1, none⟩ = some u1 ∧ W.cell? ⟨g, off + k * 7 + 2, none⟩ = some u2 ∧ W.cell? ⟨g, off + k * 7 + 3, none⟩ = some u3 ∧ W.cell? ⟨g, off + k * 7 + 4, none⟩ = some u4 ∧ W.cell? ⟨g, off + k * 7 + 5, none⟩ = some u5 ∧ W.cell? ⟨g, off + k * 7 + 6, none⟩ = some u6
  bel : ∀ W, R W → ∀ i j (hi : i < rs.length) (hj : j < css.length) (hj' : j < rs.length) (tt : Int) (a1 : Option Addr) (n1 c1 : Nat), Calls Try.prog 93 #[.agg #[.slice (vo i).1 (vo i).2.1 (vo i).2.2, .int .i64 rs[i].data.ty, .int .u32 tt, .slice a1 n1 c1], .agg css[j].toArray] W fun e W' => e = .returned (.bool (belR rs[i] rs[j])) ∧ Below W.heap.size W W'
  below : ∀ W W', R W → Below W.heap.size W W' → R W'
  kp : ∀ W W', R W → Kp W W' → R W'
  cell : ∀ k (hk : k < css.length) (hr : k < rs.length), css[k] = [.slice (vo k).1 (vo k).2.1 (vo k).2.2, .int .u32 (rs[k].ttl : Int), .int .i64 rs[k].data.ty, .slice (vn k).1 (vn k).2.1 (vn k).2.2, .slice (vu k).1 (vu k).2.1 (vu k).2.2, .slice (vt k).1 (vt k).2.1 (vt k).2.2, .slice (vr k).1 (vr k).2.1 (vr k).2.2]
/-- The box of the set that is made, its data, and what lies below. -/
structure SetB (wr : World) (b : Nat) (vo : Value) (ty : Int) (t : Nat) (vd : Value) (ds : List (List Value)) (W : World) : Prop where
  q : W.heap[b]? = some (.cells #[vo, .int .i64 ty, .int .u32 (t : Int), vd] 89)
  own : OwnC 5 48 W wr.heap.size vd ds
  below : Below wr.heap.size wr W
  hb : wr.heap.size ≤ b
theorem SetB.keep {wr W W' : World} {b : Nat} {vo vd : Value} {ty : Int} {t : Nat} {ds : List (List Value)} (h : SetB wr b vo ty t vd ds W) (hb : Below W.heap.size W W') : SetB wr b vo ty t vd ds W' :=
  ⟨(hb.block _ (kblock_lt h.q)).trans h.q, OwnK.below h.own hb, h.below.trans (hb.mono h.below.size), h.hb⟩
theorem SetB.ttl {wr W : World} {b : Nat} {vo vd : Value} {ty : Int} {t : Nat} {ds : List (List Value)} (h : SetB wr b vo ty t vd ds W) (t' : Nat) : SetB wr b vo ty t' vd ds (W.setCell ⟨b, 2, none⟩ (.int .u32 (t' : Int))) :=
  ⟨kset h.q 2 _, OwnK.keptB h.own h.q (by decide) 2 _, h.below.setCell (p := ⟨b, 2, none⟩) h.hb _, h.hb⟩
theorem SetB.push {wr W W' : World} {b : Nat} {vo vd vd' : Value} {ty : Int} {t : Nat} {ds ds' : List (List Value)} (h : SetB wr b vo ty t vd ds W) (hg : W.grownBy W' vd.ownBlock) (ho : OwnC 5 48 W' wr.heap.size vd' ds') : SetB wr b vo ty t vd' ds' (W'.setCell ⟨b, 3, none⟩ vd') := by
  have hq := (hg.block b (kblock_lt h.q) (OwnK.ne_block h.own h.q (by decide))).trans h.q
  exact ⟨kset hq 3 _, OwnK.keptB ho hq (by decide) 3 _, (h.below.grown hg h.below.size (OwnK.base_le h.own)).setCell (p := ⟨b, 3, none⟩) h.hb _, h.hb⟩

section
attribute [local go_sem] Oper.semAt_some
set_option maxRecDepth 100000 in
set_option maxHeartbeats 16000000 in
theorem sets1_in (nf : Nat) (hnf : 3 ≤ nf) (l b1 : Nat) (a : Option Addr) (g off n c : Nat) (hnc : n ≤ c) (hn63 : n ≤ 1048576) (css : List (List Value)) (rs : List Rc) (hcl : css.length = n) (hrl : rs.length = n) (vo vn vu vt vr : Nat → Option Addr × Nat × Nat) (base : Nat) (Kp : World → World → Prop) (R : World → Prop) (H : SetW b1 a g off n c css rs vo vn vu vt vr Kp R)
    (J Jx : List (SegD n) → World → Prop) (hJ : ∀ pre W W', J pre W → Below W.heap.size W W' → J pre W') (hB : ∀ W, R W → base ≤ W.heap.size)
    (hY : ∀ pre x W, J pre W → DatO base css x W → pre.length < n → YieldAt Fence.wide (nf - 1) Try.prog l (setV (fun k => .slice (vo k).1 (vo k).2.1 (vo k).2.2) rs x) W fun e W' =>
      (e = .returned (.bool true) ∧ J (pre ++ [x]) W' ∧ Kp W W') ∨ (e = .returned (.bool false) ∧ Jx (pre ++ [x]) W'))
    (W : World) (hR : R W) (h0 : J [] W) :
    CallsIn Fence.wide nf Try.prog 92 #[.func (.yield l) #[] #[], .pointer (some ⟨b1, 0, none⟩)] W fun e W' => (∃ v, e = .returned v) ∧
      ((∃ ys : List (SegD n), ys.map (·.1.1) = segsS rs ∧ J ys W') ∨ (∃ pre : List (SegD n), (pre.map (·.1.1) <+: segsS rs) ∧ Jx pre W')) := by
  have hn1' : 1 ≤ nf := by omega
  have HJJ := Lib.hid hJ
  have HCL := Lib.hid hcl; have HRL := Lib.hid hrl; have HBS := Lib.hid hB
  clear hJ hB
  have HR0 := Lib.hid hR
  have HJ0 := Lib.hid h0
  clear hR h0
  refine callsIn_of_wp Try.func92 rfl trivial ?_ rfl
  simp only [Try.ntmps92, List.size_toArray, List.length_cons, List.length_nil, Nat.reduceAdd, Nat.reduceSub, Array.replicate_succ, Array.replicate_zero, List.push_toArray, List.append_toArray, List.nil_append, List.cons_append]
  gi_wp2
  gi_loopw [3] (fun v3 wr => ∃ (s : Nat) (pre : List (SegD n)), v3 = .int .i64 s ∧ s ≤ n ∧ Hid (pre.map (·.1.1) ++ leftS rs s = segsS rs ∧ pre.length ≤ s) ∧ Hid (J pre wr) ∧ Hid (R wr))
    (fun v3 _ => n - (intOf v3).toNat)
  case atStart => exact ⟨0, [], rfl, Nat.zero_le _, Lib.hid ⟨rfl, Nat.zero_le _⟩, HJ0, HR0⟩
  case round =>
    obtain ⟨s, pre, rfl, hs, HP, HJ, HR⟩ := hrel
    generalize wr = w0 at *
    have hc0 := H.c1 _ HR.out
    by_cases hlt : s < n
    · have ha := H.ha (by omega)
      subst ha
      have hltz : (s : Int) < (n : Int) := by omega
      have hsr : s < rs.length := by omega
      have hsc : s < css.length := by omega
      have es := H.cell s hsc hsr
      obtain ⟨e0, e1, e2, e3, e4, e5, e6⟩ := H.el _ HR.out s hsc _ _ _ _ _ _ _ es
      have hc2 : W.cell? ⟨0, 0, none⟩ = W.cell? ⟨0, 0, none⟩ := rfl
      have HT0 : ttlS rs s s = rs[s].ttl := by rw [ttlS_self, getD_rs hsr]
      have hty : (rs.getD s rcZ).data.ty = rs[s].data.ty := by rw [getD_rs hsr]
      have HTY := Lib.hid hty
      clear hc2 hty
      gi_wp2_with fail
      clear e0 e1 e2 e3 e4 e5 e6 hc0
      gi_loopw [6] (fun v6 wq => ∃ (e : Nat) (ad : Option Addr) (cd : Nat), v6 = .int .i64 e ∧ s ≤ e ∧ e ≤ n ∧ Hid (e ≤ nxtS rs s) ∧ Hid (SetB w0 (w0.heap.size + 1) (.slice (vo s).1 (vo s).2.1 (vo s).2.2) rs[s].data.ty (ttlS rs s e) (.slice ad (e - s) cd) (dcs css s e) wq)) (fun v6 _ => n - (intOf v6).toNat)
      case atStart =>
        exact ⟨s, none, 0, rfl, Nat.le_refl _, by omega, Lib.hid (by have := nxtS_lt hsr; omega), Lib.hid (by
          rw [HT0, Nat.sub_self, show dcs css s s = [] by unfold dcs; rw [Nat.sub_self]; simp]
          refine ⟨?_, OwnK.nil _ _, ((Below.refl _ w0).alloc (Nat.le_refl _) _).alloc (by simp) _, by omega⟩
          have := knew (w0.alloc (.cells #[.slice (vo s).1 (vo s).2.1 (vo s).2.2, .int .u32 (rs[s].ttl : Int), .int .i64 rs[s].data.ty, .slice (vn s).1 (vn s).2.1 (vn s).2.2, .slice (vu s).1 (vu s).2.1 (vu s).2.2, .slice (vt s).1 (vt s).2.1 (vt s).2.2, .slice (vr s).1 (vr s).2.1 (vr s).2.2] 50)) (.cells #[.slice (vo s).1 (vo s).2.1 (vo s).2.2, .int .i64 rs[s].data.ty, .int .u32 (rs[s].ttl : Int), .slice none 0 0] 89)
          rw [World.size_alloc] at this
          exact this)⟩
      case round =>
        obtain ⟨e, ad, cd, rfl, he1, he2, HE, HS⟩ := hrel
        have hC := HS.out.keep (below_drew0 wr)
        obtain ⟨t, ht⟩ : ∃ t, ttlS rs s e = t := ⟨_, rfl⟩
        obtain ⟨ds, hds⟩ : ∃ ds, dcs css s e = ds := ⟨_, rfl⟩
        obtain ⟨k, hk⟩ : ∃ k, e - s = k := ⟨_, rfl⟩
        rw [ht, hds, hk] at hC
        have HSE := Lib.hid (show SetB w0 (w0.heap.size + 1) (.slice (vo s).1 (vo s).2.1 (vo s).2.2) rs[s].data.ty t (.slice ad k cd) ds wr by rw [← ht, ← hds, ← hk]; exact HS.out)
        have HTE := Lib.hid ht; have HDE := Lib.hid hds; have HKE := Lib.hid hk
        clear ht hds hk HS
        by_cases hen : e < n
        · have henz : (e : Int) < (n : Int) := by omega
          have her : e < rs.length := by omega
          have hec : e < css.length := by omega
          have ee := H.cell e hec her
          have hRp := fun p : WIn (fun W => SetB w0 (w0.heap.size + 1) (.slice (vo s).1 (vo s).2.1 (vo s).2.2) rs[s].data.ty t (.slice ad k cd) ds W) => H.below _ _ HR.out p.ok.below
          have hne : Nonempty (WIn (fun W => SetB w0 (w0.heap.size + 1) (.slice (vo s).1 (vo s).2.1 (vo s).2.2) rs[s].data.ty t (.slice ad k cd) ds W)) := ⟨⟨_, hC⟩⟩
          have k1 := fun p : WIn (fun W => SetB w0 (w0.heap.size + 1) (.slice (vo s).1 (vo s).2.1 (vo s).2.2) rs[s].data.ty t (.slice ad k cd) ds W) => H.c1 _ (hRp p)
          have f1 := fun p : WIn (fun W => SetB w0 (w0.heap.size + 1) (.slice (vo s).1 (vo s).2.1 (vo s).2.2) rs[s].data.ty t (.slice ad k cd) ds W) => H.el _ (hRp p) e hec _ _ _ _ _ _ _ ee
          have b0 := fun p : WIn (fun W => SetB w0 (w0.heap.size + 1) (.slice (vo s).1 (vo s).2.1 (vo s).2.2) rs[s].data.ty t (.slice ad k cd) ds W) => kcell p.ok.q 0 _ rfl; have b1' := fun p : WIn (fun W => SetB w0 (w0.heap.size + 1) (.slice (vo s).1 (vo s).2.1 (vo s).2.2) rs[s].data.ty t (.slice ad k cd) ds W) => kcell p.ok.q 1 _ rfl; have b2 := fun p : WIn (fun W => SetB w0 (w0.heap.size + 1) (.slice (vo s).1 (vo s).2.1 (vo s).2.2) rs[s].data.ty t (.slice ad k cd) ds W) => kcell p.ok.q 2 _ rfl; have b3 := fun p : WIn (fun W => SetB w0 (w0.heap.size + 1) (.slice (vo s).1 (vo s).2.1 (vo s).2.2) rs[s].data.ty t (.slice ad k cd) ds W) => kcell p.ok.q 3 _ rfl
          have j0 := fun p => (f1 p).1; have j1 := fun p => (f1 p).2.1; have j2 := fun p => (f1 p).2.2.1; have j3 := fun p => (f1 p).2.2.2.1; have j4 := fun p => (f1 p).2.2.2.2.1; have j5 := fun p => (f1 p).2.2.2.2.2.1; have j6 := fun p => (f1 p).2.2.2.2.2.2
          have hcg := fun p : WIn (fun W => SetB w0 (w0.heap.size + 1) (.slice (vo s).1 (vo s).2.1 (vo s).2.2) rs[s].data.ty t (.slice ad k cd) ds W) => Calls.cls (C := fun W => SetB w0 (w0.heap.size + 1) (.slice (vo s).1 (vo s).2.1 (vo s).2.2) rs[s].data.ty t (.slice ad k cd) ds W) ((H.bel _ (hRp p) s e hsr hec her (t : Int) ad k cd).mono fun _ _ ⟨hq, hb⟩ => ⟨hq, p.ok.keep hb⟩)
          rw [ee] at hcg
          obtain ⟨sm, hsm⟩ : ∃ sm, belR rs[s] rs[e] = sm := ⟨_, rfl⟩
          rw [hsm] at hcg
          have HSM := Lib.hid hsm; have HEE := Lib.hid ee
          clear f1 hsm ee
          cases sm
          · gi_wp2_with fail
            refine wpIn_wide.2 ?_
            refine wp_region_cls (fun W => SetB w0 (w0.heap.size + 1) (.slice (vo s).1 (vo s).2.1 (vo s).2.2) rs[s].data.ty t (.slice ad k cd) ds W) follows_mixed (by kernel_rfl) hC ?_
            repeat (go_big_quiet_step (exact hcg _))
            refine wpQuiet_nil ?_
            rintro _ ⟨p, rfl⟩
            have hse : s ≠ e := fun h => by subst h; have := HSM.out; rw [belR_refl] at this; cases this
            have HRp := Lib.hid (H.below _ _ HR.out p.ok.below)
            have HPOK := Lib.hid p.ok
            have hnx := nxtS_stop (rs := rs) (s := s) (e := e) hsr (by omega) HE.out (Or.inr ⟨her, HSM.out⟩)
            have hx : s < e ∧ e ≤ n := ⟨by omega, by omega⟩
            obtain ⟨fn, tmps, assign, body, hy, hRd⟩ := hY pre ⟨((s, e), (ad, cd)), hx⟩ p.w (HJJ.out _ _ _ HJ.out p.ok.below) (by
              have h := OwnK.weaken p.ok.own (HBS.out _ HR.out)
              show OwnC 5 48 p.w base (.slice ad (e - s) cd) (dcs css s e)
              rw [HDE.out, HKE.out]
              exact h) (by have := HP.out.2; omega)
            unfold setV at hy
            simp only at hy
            rw [HTY.out, HTE.out, HKE.out] at hy
            have y0 := kcell HPOK.out.q 0 _ rfl; have y1 := kcell HPOK.out.q 1 _ rfl; have y2 := kcell HPOK.out.q 2 _ rfl; have y3 := kcell HPOK.out.q 3 _ rfl
            have HRR := Lib.hid hRd
            have HNX := Lib.hid hnx
            have HX := Lib.hid hx
            clear hRd hnx hcg k1 b0 b1' b2 b3 j0 j1 j2 j3 j4 j5 j6 hRp
            gi_wp2
            refine HRR.out.mono ?_
            rintro e' W3 (⟨rfl, hJ3, hk3⟩ | ⟨rfl, hJx3⟩)
            · have HR3 := Lib.hid (H.kp _ _ HRp.out hk3)
              have HJ3 := Lib.hid hJ3
              clear hJ3 hk3 HRR
              gi_wp2
              go_roundw
              case measure => simp [intOf]; omega
              case rel =>
                refine ⟨e, pre ++ [⟨((s, e), (ad, cd)), HX.out⟩], rfl, by omega, Lib.hid ⟨?_, by have := HP.out.2; simp; omega⟩, HJ3, HR3⟩
                have hp := HP.out.1
                rw [leftS_step hsr, ← HNX.out] at hp
                simpa using hp
            · gi_wp2
              refine bodyPost_ret (results_none rfl _ _ _) rfl ?_
              exact ⟨⟨_, rfl⟩, .inr ⟨_, ⟨leftS rs e, by have hp := HP.out.1; rw [leftS_step hsr, ← HNX.out] at hp; simpa using hp⟩, hJx3⟩⟩
          · gi_wp2_with fail
            refine wpIn_wide.2 ?_
            refine wp_region_cls (fun W => SetB w0 (w0.heap.size + 1) (.slice (vo s).1 (vo s).2.1 (vo s).2.2) rs[s].data.ty t (.slice ad k cd) ds W) follows_mixed (by kernel_rfl) hC ?_
            repeat (go_big_quiet_step (exact hcg _))
            refine wpQuiet_nil ?_
            rintro _ ⟨p, rfl⟩
            have hS6 := p.ok.keep (below_drew0 p.w)
            have hR6 := H.below _ _ HR.out hS6.below
            have q2 := kcell hS6.q 2 _ rfl
            have f2 := kfrozen hS6.q 2
            have r1 := H.c1 _ hR6
            obtain ⟨-, m1, -⟩ := H.el _ hR6 e hec _ _ _ _ _ _ _ HEE.out
            obtain ⟨te, hte⟩ : ∃ te, rs[e].ttl = te := ⟨_, rfl⟩
            rw [hte] at m1
            obtain ⟨mt, hmt⟩ : ∃ m, minT t te = m := ⟨_, rfl⟩
            have hmz : min (t : Int) (te : Int) = (mt : Int) := by rw [← hmt, minT_min]; omega
            have HT1 := Lib.hid (show ttlS rs s (e + 1) = mt by rw [ttlS_snoc he1 her, HTE.out, hte, hmt])
            have HS6 := Lib.hid hS6
            clear hmt hte hcg k1 b0 b1' b2 b3 j0 j1 j2 j3 j4 j5 j6 hRp hS6 hR6 hC hne
            have mixed := (follows_mixed : Try.prog.follows .mixedOrders = true)
            generalize p.w = W6 at *
            gi_wp2_with fail
            refine wpIn_wide.2 ?_
            go_big_region_o
            all_goals
              obtain ⟨xe, hxe⟩ : ∃ x, rs[e].data.ty = x := ⟨_, rfl⟩
              have hS7 : SetB w0 (w0.heap.size + 1) (.slice (vo s).1 (vo s).2.1 (vo s).2.2) rs[s].data.ty mt (.slice ad k cd) ds ((W6.setCell ⟨w0.heap.size + 1, 2, none⟩ (.int .u32 (mt : Int))).drew) := HS6.out.ttl mt
              obtain ⟨W7, hW7⟩ : ∃ W, (W6.setCell ⟨w0.heap.size + 1, 2, none⟩ (.int .u32 (mt : Int))).drew = W := ⟨_, rfl⟩
              rw [hW7] at hS7 ⊢
              clear hW7 q2 f2 r1 m1 HS6
              have hS8 := hS7.keep (below_drew0 W7)
              have hSX : SetB w0 (w0.heap.size + 1) (.slice (vo s).1 (vo s).2.1 (vo s).2.2) rs[s].data.ty mt (.slice ad k cd) ds ((W7.alloc (.cells #[.int .i64 xe, .slice (vn e).1 (vn e).2.1 (vn e).2.2, .slice (vu e).1 (vu e).2.1 (vu e).2.2, .slice (vt e).1 (vt e).2.1 (vt e).2.2, .slice (vr e).1 (vr e).2.1 (vr e).2.2] 48)).drew) := hS8.keep ((Below.refl _ W7.drew).alloc (Nat.le_refl _) _)
              have HSX := Lib.hid hSX
              have hR8 := H.below _ _ HR.out hS8.below
              have q3 := kcell hS8.q 3 _ rfl
              have q3' := kcell hSX.q 3 _ rfl
              have r1 := H.c1 _ hR8
              have rX := H.c1 _ (H.below _ _ HR.out hSX.below)
              obtain ⟨-, -, m2, m3, m4, m5, m6⟩ := H.el _ hR8 e hec _ _ _ _ _ _ _ HEE.out
              rw [hxe] at m2
              have HXE := Lib.hid hxe
              clear hxe
              have HDL := Lib.hid (show ds.length = k by rw [← HDE.out, dcs_len (by omega), HKE.out])
              have HD5 := Lib.hid (show ∀ cs ∈ ([[.int .i64 xe, .slice (vn e).1 (vn e).2.1 (vn e).2.2, .slice (vu e).1 (vu e).2.1 (vu e).2.2, .slice (vt e).1 (vt e).2.1 (vt e).2.2, .slice (vr e).1 (vr e).2.1 (vr e).2.2]] : List (List Value)), cs.length = 5 by intro cs hc; rw [List.mem_singleton] at hc; subst hc; rfl)
              have HD1 := Lib.hid (show ∀ cs ∈ ([[.int .i64 xe, .slice (vn e).1 (vn e).2.1 (vn e).2.2, .slice (vu e).1 (vu e).2.1 (vu e).2.2, .slice (vt e).1 (vt e).2.1 (vt e).2.2, .slice (vr e).1 (vr e).2.1 (vr e).2.2]] : List (List Value)), ∀ u ∈ cs, u.oneCell' = true by
                intro cs hc u hu; rw [List.mem_singleton] at hc; subst hc
                simp only [List.mem_cons, List.not_mem_nil, or_false] at hu
                rcases hu with rfl | rfl | rfl | rfl | rfl <;> rfl)
              have HKN := Lib.hid (show k ≤ 1048576 by have := HKE.out; omega)
              have H8 := Lib.hid (fun (ops : Array Oper) (o : Oper) (a : Act) (K : Act → World → Prop) (Q : Exit → Act → World → Prop) (E : Prop) (h1 : o.guard = none) (h2 : o.op = .call { callee := .builtin .append, args := #[.tmp 46, .tmp 52], argTypes := #[58, 58] }) (h3 : a.eval (.tmp 46) = .slice ad k cd) (h4 : a.eval (.tmp 52) = .slice (some ⟨W7.heap.size, 0, none⟩) 1 1) h => step_append_slk (ops := ops) (a := a) (K := K) (Q := Q) (E := E) ((W7.alloc (.cells #[.int .i64 xe, .slice (vn e).1 (vn e).2.1 (vn e).2.2, .slice (vu e).1 (vu e).2.1 (vu e).2.2, .slice (vt e).1 (vt e).2.1 (vt e).2.2, .slice (vr e).1 (vr e).2.1 (vr e).2.2] 48)).drew) h1 (.tmp 46) (.tmp 52) elem_dat (by decide) h2 w0.heap.size _ ds h3 HSX.out.own _ [[.int .i64 xe, .slice (vn e).1 (vn e).2.1 (vn e).2.2, .slice (vu e).1 (vu e).2.1 (vu e).2.2, .slice (vt e).1 (vt e).2.1 (vt e).2.2, .slice (vr e).1 (vr e).2.1 (vr e).2.2]] h4 (slK_blk (css := [[.int .i64 xe, .slice (vn e).1 (vn e).2.1 (vn e).2.2, .slice (vu e).1 (vu e).2.1 (vu e).2.2, .slice (vt e).1 (vt e).2.1 (vt e).2.2, .slice (vr e).1 (vr e).2.1 (vr e).2.2]]) (knew W7 _)) HD5.out HD1.out HSX.out.below.size (by have := HKN.out; rw [HDL.out]; unfold maxLen; simp <;> omega) (by have := HKN.out; rw [HDL.out]; simp <;> omega) h)
              clear hS7 hS8 hSX hR8
              gi_wp2_with fail
              refine wpIn_wide.2 ?_
              go_region_law ((with_reducible refine H8.out _ _ _ _ _ _ ?_ ?_ ?_ ?_ ?_); exact rfl; exact rfl; exact rfl; exact rfl; intro v8 w8 ho8 hg8; obtain ⟨a8, z8, e8⟩ := OwnK.shape ho8; rw [List.length_append, HDL.out] at e8; simp only [List.length_cons, List.length_nil, Nat.zero_add] at e8; subst e8; have HS9 := Lib.hid (HSX.out.push hg8 ho8); have hq8 := (hg8.block _ (kblock_lt HSX.out.q) (OwnK.ne_block HSX.out.own HSX.out.q (by decide))).trans HSX.out.q; have c8 := kcell hq8 3 _ rfl; have f8 := kfrozen hq8 3; clear ho8 hg8 hq8)
              all_goals
                have HNX := Lib.hid (show e + 1 ≤ nxtS rs s by
                  rcases Nat.lt_or_ge s e with h | h
                  · exact nxtS_more hsr h HE.out her HSM.out
                  · obtain rfl : e = s := by omega
                    have := nxtS_lt hsr; omega)
                have HFI := Lib.hid (show SetB w0 (w0.heap.size + 1) (.slice (vo s).1 (vo s).2.1 (vo s).2.2) rs[s].data.ty (ttlS rs s (e + 1)) (.slice a8 (e + 1 - s) z8) (dcs css s (e + 1)) (w8.setCell ⟨w0.heap.size + 1, 3, none⟩ (.slice a8 (k + 1) z8)) by
                  rw [HT1.out, dcs_snoc he1 hec, HDE.out, show e + 1 - s = k + 1 by have := HKE.out; omega]
                  have e : css[e].drop 2 = [.int .i64 xe, .slice (vn e).1 (vn e).2.1 (vn e).2.2, .slice (vu e).1 (vu e).2.1 (vu e).2.2, .slice (vt e).1 (vt e).2.1 (vt e).2.2, .slice (vr e).1 (vr e).2.1 (vr e).2.2] := by rw [HEE.out, HXE.out]; rfl
                  rw [e]; exact HS9.out)
                clear q3 q3' r1 rX m2 m3 m4 m5 m6 c8 f8 HS9
                gi_wp2
                go_roundw
                case measure => simp [intOf]; omega
                case rel => exact ⟨e + 1, a8, z8, by go_num, by omega, by omega, HNX, HFI⟩
        · have henz : ¬ (e : Int) < (n : Int) := by omega
          have hRp := fun p : WIn (fun W => SetB w0 (w0.heap.size + 1) (.slice (vo s).1 (vo s).2.1 (vo s).2.2) rs[s].data.ty t (.slice ad k cd) ds W) => H.below _ _ HR.out p.ok.below
          have hne : Nonempty (WIn (fun W => SetB w0 (w0.heap.size + 1) (.slice (vo s).1 (vo s).2.1 (vo s).2.2) rs[s].data.ty t (.slice ad k cd) ds W)) := ⟨⟨_, hC⟩⟩
          have k1 := fun p : WIn (fun W => SetB w0 (w0.heap.size + 1) (.slice (vo s).1 (vo s).2.1 (vo s).2.2) rs[s].data.ty t (.slice ad k cd) ds W) => H.c1 _ (hRp p)
          gi_wp2_with fail
          refine wpIn_wide.2 ?_
          refine wp_region_cls (fun W => SetB w0 (w0.heap.size + 1) (.slice (vo s).1 (vo s).2.1 (vo s).2.2) rs[s].data.ty t (.slice ad k cd) ds W) follows_mixed (by kernel_rfl) hC ?_
          repeat (go_big_quiet_step (fail))
          refine wpQuiet_nil ?_
          rintro _ ⟨p, rfl⟩
          have HRp := Lib.hid (H.below _ _ HR.out p.ok.below)
          have HPOK := Lib.hid p.ok
          have hnx := nxtS_stop (rs := rs) (s := s) (e := e) hsr (by omega) HE.out (Or.inl (by omega))
          have hx : s < e ∧ e ≤ n := ⟨by omega, by omega⟩
          obtain ⟨fn, tmps, assign, body, hy, hRd⟩ := hY pre ⟨((s, e), (ad, cd)), hx⟩ p.w (HJJ.out _ _ _ HJ.out p.ok.below) (by
            have h := OwnK.weaken p.ok.own (HBS.out _ HR.out)
            show OwnC 5 48 p.w base (.slice ad (e - s) cd) (dcs css s e)
            rw [HDE.out, HKE.out]
            exact h) (by have := HP.out.2; omega)
          unfold setV at hy
          simp only at hy
          rw [HTY.out, HTE.out, HKE.out] at hy
          have y0 := kcell HPOK.out.q 0 _ rfl; have y1 := kcell HPOK.out.q 1 _ rfl; have y2 := kcell HPOK.out.q 2 _ rfl; have y3 := kcell HPOK.out.q 3 _ rfl
          have HRR := Lib.hid hRd
          have HNX := Lib.hid hnx
          have HX := Lib.hid hx
          clear hRd hnx k1 hRp
          gi_wp2
          refine HRR.out.mono ?_
          rintro e' W3 (⟨rfl, hJ3, hk3⟩ | ⟨rfl, hJx3⟩)
          · have HR3 := Lib.hid (H.kp _ _ HRp.out hk3)
            have HJ3 := Lib.hid hJ3
            clear hJ3 hk3 HRR
            gi_wp2
            go_roundw
            case measure => simp [intOf]; omega
            case rel =>
              refine ⟨e, pre ++ [⟨((s, e), (ad, cd)), HX.out⟩], rfl, by omega, Lib.hid ⟨?_, by have := HP.out.2; simp; omega⟩, HJ3, HR3⟩
              have hp := HP.out.1
              rw [leftS_step hsr, ← HNX.out] at hp
              simpa using hp
          · gi_wp2
            refine bodyPost_ret (results_none rfl _ _ _) rfl ?_
            exact ⟨⟨_, rfl⟩, .inr ⟨_, ⟨leftS rs e, by have hp := HP.out.1; rw [leftS_step hsr, ← HNX.out] at hp; simpa using hp⟩, hJx3⟩⟩
    · obtain rfl : s = n := by omega
      gi_wp2
      go_end0
      have hp := HP.out.1
      rw [leftS_end rs (by omega), List.append_nil] at hp
      exact ⟨⟨_, rfl⟩, .inl ⟨pre, hp, HJ.out⟩⟩
end
end Go.Proofs.Yteppgeiejknhoaa

/-
  rdata.quoted, rdata.readAddress.
-/
namespace Go.Proofs.Yteppgeiejknhoaa
set_option maxRecDepth 20000
open Go.RowKit Go.Shelf

/-! ### quoted -/
def quoteF (l : List UInt8) : List UInt8 := l.flatMap quoteW
theorem quoteF_snoc (l : List UInt8) (c : UInt8) : quoteF (l ++ [c]) = quoteF l ++ quoteW c := by simp [quoteF]
theorem quoteW_sign {c : UInt8} (h : ((c.toNat : Int) == 34) = true ∨ ((c.toNat : Int) == 92) = true) : quoteW c = [92, c] := by
  unfold quoteW
  rw [if_pos]
  rcases h with h | h
  · exact .inl (u8_is (n := 34) (by omega) h)
  · exact .inr (u8_is (n := 92) (by omega) h)
theorem quoteW_esc {c : UInt8} (h1 : ((c.toNat : Int) == 34) = false) (h2 : ((c.toNat : Int) == 92) = false) (h : (c.toNat : Int) < 32 ∨ 126 < (c.toNat : Int)) : quoteW c = octetEsc c := by
  have n1 : c ≠ 34 := u8_isnt (n := 34) (by omega) h1
  have n2 : c ≠ 92 := u8_isnt (n := 92) (by omega) h2
  unfold quoteW
  rw [if_neg (by rintro (h | h) <;> contradiction), if_pos (by omega)]
theorem quoteW_plain {c : UInt8} (h1 : ((c.toNat : Int) == 34) = false) (h2 : ((c.toNat : Int) == 92) = false) (h3 : 32 ≤ (c.toNat : Int)) (h4 : (c.toNat : Int) ≤ 126) : quoteW c = [c] := by
  have n1 : c ≠ 34 := u8_isnt (n := 34) (by omega) h1
  have n2 : c ≠ 92 := u8_isnt (n := 92) (by omega) h2
  unfold quoteW
  rw [if_neg (by rintro (h | h) <;> contradiction), if_neg (by omega)]
theorem quoteW_le (c : UInt8) : (quoteW c).length ≤ 4 := by
  unfold quoteW; split
  · simp
  · split <;> simp [octetEsc]
theorem quoteF_le (l : List UInt8) : (quoteF l).length ≤ 4 * l.length := by
  induction l with
  | nil => simp [quoteF]
  | cons c r ih => have := quoteW_le c; simp only [quoteF, List.flatMap_cons, List.length_append, List.length_cons] at ih ⊢; omega

theorem lit_u8 (w : World) (l : List UInt8) (h : l.length ≤ 140737488355328) : OwnG 5 bv (w.alloc (.cells (l.map bv).toArray 5)) w.heap.size (.slice (some ⟨w.heap.size, 0, none⟩) l.length l.length) l :=
  OwnG.lit (T := 5) (enc := bv) w w.heap.size (Nat.le_refl _) l (by unfold maxLen; omega)

end Go.Proofs.Yteppgeiejknhoaa

/-
  rdata: nameWords, numWords, textWords. (Written by wip/tools/gen6.py.)
-/
namespace Go.Proofs.Yteppgeiejknhoaa
set_option maxRecDepth 20000
open Go.RowKit Go.Shelf

theorem str_name {l : List UInt8} {x : ByteArray} (h : x.data.toList = l) : (⟨l.toArray⟩ : ByteArray) = x := ba_ext (by rw [h])
theorem take_map_snoc {α β : Type} (f : α → β) (l : List α) (k : Nat) (h : k < l.length) : (l.take k).map f ++ [f l[k]] = (l.take (k + 1)).map f := by
  rw [List.take_succ_eq_append_getElem h, List.map_append]; rfl

end Go.Proofs.Yteppgeiejknhoaa

/-
  rdata.Check.
-/
namespace Go.Proofs.Yteppgeiejknhoaa
set_option maxRecDepth 20000
open Go.RowKit Go.Shelf
set_option maxRecDepth 20000

theorem longT_not {l : Nm} {k : Nat} (hk : k < l.length) (h : 255 < l[k].length) : longT l = true := by
  unfold longT; rw [List.any_eq_true]; exact ⟨_, List.getElem_mem hk, by simpa using h⟩
theorem longT_snoc (l : Nm) (x : List UInt8) : longT (l ++ [x]) = (longT l || decide (255 < x.length)) := by simp [longT]
theorem headD_get (l : List Nat) (h : 0 < l.length) : l.headD 0 = l[0] := by
  cases l with
  | nil => simp at h
  | cons a r => rfl
def CheckPost (d : Dat) (w : World) (e : Ending) (w' : World) : Prop := e = .returned (.int .i64 (checkD d)) ∧ Below w.heap.size w w'
theorem check_fin {d : Dat} {w w' : World} {e : Ending} (er : Int) (h : checkD d = er) (he : e = .returned (.int .i64 er)) (hb : Below w.heap.size w w') : CheckPost d w e w' := by
  subst h; exact ⟨he, hb⟩
theorem checkD_type {d : Dat} (h : d.ty < 1 ∨ 65535 < d.ty) : checkD d = 6 := by unfold checkD; rw [if_pos h]
theorem checkD_count {d : Dat} (h : ¬ (d.ty < 1 ∨ 65535 < d.ty)) (h2 : countedM d = false) : checkD d = 2 := by unfold checkD; rw [if_neg h, if_pos h2]
theorem checkD_rest {d : Dat} (h : ¬ (d.ty < 1 ∨ 65535 < d.ty)) (h2 : countedM d = true) : checkD d = if checkNs d.names ≠ 0 then checkNs d.names else if d.ty = 15 ∧ 65535 < d.nums.headD 0 then 7 else if longT d.texts then 3 else if 1024 < d.raw.length then 3 else 0 := by
  unfold checkD; rw [if_neg h, if_neg (by rw [h2]; simp)]
end Go.Proofs.Yteppgeiejknhoaa

