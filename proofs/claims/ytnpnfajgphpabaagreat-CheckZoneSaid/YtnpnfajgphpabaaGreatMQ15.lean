import Derived.RangeFuncNested
import Derived.Deep.RegionHeld3
import Derived.IntWalk
import Derived.Test.YtnpnfajgphpabaaGreatMQ08
namespace Go.Proofs.YtnpnfajgphpabaaGreat
set_option maxRecDepth 100000
set_option maxHeartbeats 4000000
open Go.RowKit Go.Shelf
theorem qgL (a0 : Option Addr) (n0 c0 : Nat) (a1 : Option Addr) (n1 c1 : Nat) (tt : Int) (o : Nm) (t : Int) (cs : List Value) (r : Rc) (w : World) (hO : NmAt w (.slice a0 n0 c0) o) (hko : NmOK o) (hA : RcAt w cs r) (hk : RcOK r) :
 Calls Tryz.prog 97 #[.agg #[.slice a0 n0 c0, .int .i64 t, .int .u32 tt, .slice a1 n1 c1], .agg cs.toArray] w fun e w' => e = .returned (.bool (belM o t r)) ∧ Below w.heap.size w w' := by
 have hsh := hA.shape
 obtain ⟨⟨p0, q0, k0⟩, ⟨p3, q3, k3⟩, ⟨p4, q4, k4⟩, ⟨p5, q5, k5⟩, ⟨p6, q6, k6⟩, e0⟩ := hsh
 simp only at e0
 subst e0
 have hA1 : NmAt w (.slice p0 q0 k0) r.owner := by
  obtain ⟨_, _, _, _, _, e5, g1, _⟩ := hA
  simp only [List.cons.injEq, and_true] at e5
  rw [e5.1]; exact g1
 have HN := qH0 (fun W (hb : Below w.heap.size w W) => qbW (.slice p0 q0 k0) (.slice a0 n0 c0) r.owner o _ rfl W (hA1.below hb) (hO.below hb) hk.1 hko)
 have hR := qH0 (show belM o t r = (decide (r.data.ty = t) && sameN r.owner o) from rfl)
 generalize belM o t r = res at *
 generalize sameN r.owner o = q at *
 generalize r.data.ty = x at *
 generalize (r.ttl : Int) = tr at *
 have hb0 := fun o o' => ((Below.refl w.heap.size w).alloc (qN0) o).alloc (o := o') (by simp)
 have hbb := hb0 (Obj.cells #[.slice a0 n0 c0, .int .i64 t, .int .u32 tt, .slice a1 n1 c1] 67) (Obj.cells #[.slice p0 q0 k0, .int .u32 tr, .int .i64 x, .slice p3 q3 k3, .slice p4 q4 k4, .slice p5 q5 k5, .slice p6 q6 k6] 47)
 have hn := HN.out _ hbb
 have HBB := qH0 hbb
 clear hbb hb0 HN hA hA1 hO hko hk
 by_cases hx : x = t
 ·subst hx
  have HR : Hid (res = q) := qH0 (by rw [hR.out]; simp)
  clear hR
  go_enter Tryz.func97, Tryz.ntmps97
  go_wp2_with fail
  refine hn.mono ?_
  rintro e w1 ⟨rfl, hb1⟩
  have HB1 := qH0 (qB0 HBB.out hb1)
  clear hb1 hn
  go_wp2
  go_ret
  exact ⟨by rw [HR.out]; rfl, HB1.out⟩
 ·have HR : Hid (res = false) := qH0 (by rw [hR.out]; simp [hx])
  have hxb : (x == t) = false := by simpa using hx
  clear hR hn
  go_enter Tryz.func97, Tryz.ntmps97
  go_wp2
  go_ret
  exact ⟨by rw [HR.out]; rfl, HBB.out⟩
end Go.Proofs.YtnpnfajgphpabaaGreat
namespace Go.Proofs.YtnpnfajgphpabaaGreat
set_option maxRecDepth 20000
open Go Go.RowKit Go.Shelf
def qfw {α : Type} (F : Fence) (n : Nat) (P : Program) (g : Nat) (lb : Array Value) (encs : α → Array Value) (D : α → World → Prop) (Kp : World → World → Prop) (S Sp : List α → Prop) (N : Nat) (w : World) : Prop :=
 ∀ (l : Nat) (J Jx : List α → World → Prop) (W : World), Below w.heap.size w W → AbidesFrom W.heap.size J → AbidesFrom W.heap.size Jx →
  (∀ pre x W1, J pre W1 → D x W1 → pre.length < N → YieldAt F (n - 1) P l (encs x) W1 fun e W' =>
    (e = .returned (.bool true) ∧ J (pre ++ [x]) W' ∧ Kp W1 W') ∨ (e = .returned (.bool false) ∧ Jx (pre ++ [x]) W')) →
  J [] W →
  CallsIn F n P g (#[.func (.yield l) #[] #[]] ++ lb) W fun e W' => (∃ v, e = .returned v) ∧ ((∃ xs, S xs ∧ J xs W') ∨ (∃ pre, Sp pre ∧ Jx pre W'))
structure TwoBk (m : Nat) (r : Loop) (W : World) : Prop where
 lp : W.heap[m + 1]? = some (.loop r)
 dfr : W.heap[m]? = some (.deferred (some []))
theorem TwoBk.lt {m : Nat} {r : Loop} {W : World} (h : TwoBk m r W) : m + 1 < W.heap.size := (Array.getElem?_eq_some_iff.1 h.lp).1
theorem TwoBk.grown {m : Nat} {r : Loop} {W W' : World} {row : Option Nat} (h : TwoBk m r W) (hg : W.grownBy W' row) (hr : ∀ k, row = some k → k ≠ m ∧ k ≠ m + 1) : TwoBk m r W' :=
 ⟨(hg.block _ h.lt (fun e => (hr _ e.symm).2 rfl)).trans h.lp, (hg.block _ (by have := h.lt; omega) (fun e => (hr _ e.symm).1 rfl)).trans h.dfr⟩
theorem TwoBk.walks {m B : Nat} {r : Loop} {W W' : World} {row : Option Nat} (h : TwoBk m r W) (hg : W.grownBy W' row) (hr : ∀ k, row = some k → B ≤ k ∧ ∃ o : Obj, W.heap[k]? = some o ∧ o.isWalk = true) : TwoBk m r W' :=
 h.grown hg fun k e => by
  obtain ⟨_, o, ho, hw⟩ := hr k e
  refine ⟨fun e2 => ?_, fun e2 => ?_⟩
  ·subst e2; rw [h.dfr] at ho; cases ho; cases hw
  ·subst e2; rw [h.lp] at ho; cases ho; cases hw
theorem TwoBk.kept {m : Nat} {r : Loop} {W W' : World} (h : TwoBk m r W) (hk : KeepsFrom m W W') : TwoBk m r W' := ⟨hk.same _ _ (by omega) h.lp rfl, hk.same _ _ (qN0) h.dfr rfl⟩
theorem TwoBk.turn {m : Nat} {r : Loop} {W : World} (h : TwoBk m r W) (r' : Loop) : TwoBk m r' (W.putObj (m + 1) (.loop r')) := ⟨World.putObj_heap_same h.lt, (World.putObj_heap_other (by omega)).trans h.dfr⟩
variable {F : Fence} {n : Nat} {P : Program}
theorem qck {α : Type} {g : Operand} {ps : Array Tmp} {assign body : Code} {Q : Exit → Act → World → Prop} {a : Act} {w : World}
 (hro : F.round = none) (h1 : 1 ≤ n) {gf : Nat} {lb : Array Value} (hg : a.eval g = .func (.func gf) #[] lb) (hFg : F.fn gf) (eg : ∀ args w, (callFunc gf args).run P w = .ok (.enter gf args) w)
 {encs : α → Array Value} {D : α → World → Prop} {Kp : World → World → Prop} {S Sp : List α → Prop} {N : Nat} {w0 : World} (hseq : qfw F (n - 1) P gf lb encs D Kp S Sp N w0)
 (hKt : ∀ {A B C : World}, Kp A B → Kp B C → Kp A C) (hKb : ∀ (W : World) (l : Nat) (o o' : Obj), w.heap.size ≤ l → W.heap[l]? = some o → o.isCells = false → o.isWalk = false → Kp W (W.putObj l o')) (hb0 : Below w0.heap.size w0 w) (hps : ∀ x, (encs x).size = ps.size)
 (I : List α → World → Prop) (Ix : Code → List α → World → Prop) (hI : OwnFrom w.heap.size I) (hIx : ∀ c, OwnFrom w.heap.size (Ix c)) (h0 : I [] w) (Ax : α → Act → World → Prop) (hAx : ∀ a', OwnFrom w.heap.size (fun x W => Ax x a' W))
 (hassign : ∀ (l : Nat) (pre : List α) (x : α) (W : World) (K : Act → World → Prop), I pre W → D x W → (∀ a' W', KeepsFrom w.heap.size W W' → Kp W W' → I pre W' → Ax x a' W' → K a' W') →
   assign.wpIn (F.inRound l) (n - 1 - 1) P (Exit.then K (fun _ _ _ => False)) { tmps := (ps.zip (encs x)).foldl (fun t (p, v) => t.setIfInBounds p v) a.tmps, defers := [] } W)
 (hbody : ∀ (l : Nat) (pre : List α) (x : α) (a' : Act) (W : World), I pre W → Ax x a' W → pre.length < N → body.wpIn (F.inRound l) (n - 1 - 1) P (ownPostG w.heap.size Kp I Ix (pre ++ [x]) W) a' W)
 (hdone : ∀ (d : Nat) (xs : List α) (W : World), w.heap.size ≤ d → S xs → I xs W → W.heap[d]? = some (.deferred (some [])) → Q .normal { a with defers := { target := .collected d, args := #[] } :: a.defers } W)
 (hstop : ∀ (d : Nat) (c : Code) (pre : List α) (W : World), w.heap.size ≤ d → Sp pre → Ix c pre W → W.heap[d]? = some (.deferred (some [])) → c.wpIn F n P Q { a with defers := { target := .collected d, args := #[] } :: a.defers } W) :
 (Code.rangeFunc g ps assign body).wpIn F n P Q a w := by
 refine wpIn_rangeFunc fun fn hfn => ?_
 rw [hro]
 obtain ⟨m, hm⟩ : ∃ m, w.heap.size = m := ⟨_, rfl⟩
 obtain ⟨R, hR⟩ : ∃ R : LoopState → Option Code → Loop, R = fun st pe => { state := st, pending := pe, fn, tmps := a.tmps, params := ps, assign, body, defers := m } := ⟨_, rfl⟩
 obtain ⟨W1, hW1⟩ : ∃ W1, (w.alloc (.deferred (some []))).alloc (.loop (R .ready none)) = W1 := ⟨_, rfl⟩
 have hsz : W1.heap.size = m + 2 := by rw [← hW1]; simp [hm]
 have hB1 : TwoBk m (R .ready none) W1 := by
  refine ⟨?_, ?_⟩
  ·have h := World.alloc_heap_new (w.alloc (.deferred (some []))) (.loop (R .ready none))
   rw [World.size_alloc, hm, hW1] at h; exact h
  ·rw [← hW1, ← hm]; exact (Below.heap_alloc _ _ _ (by simp)).trans (World.alloc_heap_new w _)
 have hbw : Below m w W1 := by rw [← hW1, ← hm]; exact ((Below.refl _ w).alloc (qN0) _).alloc (by simp) _
 rw [hm] at hI hKb hassign hbody hdone hstop
 have hAx' : ∀ a', OwnFrom m (fun x W => Ax x a' W) := fun a' => by rw [← hm]; exact hAx a'
 have hIx' : ∀ c, OwnFrom m (Ix c) := fun c => by rw [← hm]; exact hIx c
 have noCells : ∀ {A : World} {row : Option Nat}, (∀ k, row = some k → W1.heap.size ≤ k ∧ ∃ o : Obj, A.heap[k]? = some o ∧ o.isWalk = true) → ∀ k, row = some k → m ≤ k ∧ ∃ o : Obj, A.heap[k]? = some o ∧ o.isCells = false :=
  fun h k e => by obtain ⟨hk, o, ho, hw⟩ := h k e; exact ⟨by omega, o, ho, Obj.not_cells_of_walk hw⟩
 refine ⟨m + 1, [{ target := .collected m, args := #[] }], W1, { target := .fn (.func gf) lb, args := #[.func (.yield (m + 1)) #[] #[]] }, W1, gf, #[.func (.yield (m + 1)) #[] #[]] ++ lb, W1, ?_, ?_, ?_, ?_, fun _ => h1, ?_⟩
 ·have h := run_enterLoop_outer (P := P) (w := w) fn a.tmps ps assign body
  rw [hm] at h
  rw [h, ← hW1, hR]
 ·simp only [resolve, hg]
  simp [go_sem]
 ·intro f' hf'
  simp [Target.leads] at hf'
  subst hf'; exact hFg
 ·simp [invoke, go_sem, eg]
 refine (hseq (m + 1) (fun pre W => I pre W ∧ TwoBk m (R .ready none) W) (fun pre W => ∃ c, Ix c pre W ∧ TwoBk m (R .done (some c)) W) W1 (hb0.trans (hbw.mono (by rw [← hm]; exact hb0.size)))
  (fun s A B row hs hgr hr => ⟨hI s A B row hs.1 hgr (noCells hr), hs.2.walks hgr hr⟩)
  (fun s A B row hs hgr hr => by obtain ⟨c, hc, ht⟩ := hs; exact ⟨c, hIx' c s A B row hc hgr (noCells hr), ht.walks hgr hr⟩)
  ?_ ⟨?_, hB1⟩).mono ?_
 ·rintro pre x W ⟨hi, ht⟩ hd hlen
  have hy := run_yield (P := P) (args := encs x) ht.lp (by rw [hR]; exact hps x)
  rw [hR] at hy
  refine ⟨fn, _, assign, body, hy, roundIn_of_wpIn hfn (hassign _ pre x W _ hi hd ?_)⟩
  intro a' Wa hka hkpa hia hax
  have hta := ht.kept hka
  obtain ⟨Wb, hWb⟩ : ∃ Wb, Wa.putObj (m + 1) (.loop (R .busy none)) = Wb := ⟨_, rfl⟩
  have hbeg := run_beginRound (P := P) hta.lp (by rw [hR])
  have hbusy : ({ R .ready none with state := .busy } : Loop) = R .busy none := by rw [hR]
  rw [hbusy, hWb] at hbeg
  have htb : TwoBk m (R .busy none) Wb := by rw [← hWb]; exact hta.turn _
  have hib : I pre Wb := by rw [← hWb]; exact hI.putObj _ hia (by omega) hta.lp rfl
  have hab : Ax x a' Wb := by rw [← hWb]; exact (hAx' a').putObj (s := x) _ hax (by omega) hta.lp rfl
  have hkb : Kp W Wb := by rw [← hWb]; exact hKt hkpa (hKb _ _ _ _ (by omega) hta.lp rfl rfl)
  refine ⟨Wb, hbeg, wpIn_mono (hbody _ pre x a' Wb hib hab hlen) ?_⟩
  have fin : ∀ (jump : Option Code) (W3 : World), KeepsFrom m Wb W3 → (Instr.endRound (m + 1) jump).run P W3 = .ok (.bool jump.isNone) (W3.putObj (m + 1) (.loop (R (if jump.isNone then .ready else .done) jump))) ∧ TwoBk m (R .busy none) W3 := fun jump W3 hk => by
   have h3 := htb.kept hk
   have := run_endRound (P := P) jump h3.lp
   rw [hR] at this ⊢
   exact ⟨this, by rw [hR] at h3; exact h3⟩
  have leave : ∀ (c : Code) (W3 : World), KeepsFrom m Wb W3 → Ix c (pre ++ [x]) W3 → ∃ v w', (Instr.endRound (m + 1) (some c)).run P W3 = .ok v w' ∧ ((Ending.returned v = .returned (.bool true) ∧ (I (pre ++ [x]) w' ∧ TwoBk m (R .ready none) w') ∧ Kp W w') ∨ (Ending.returned v = .returned (.bool false) ∧ ∃ c, Ix c (pre ++ [x]) w' ∧ TwoBk m (R .done (some c)) w')) := fun c W3 hk hx => by
   obtain ⟨hr, h3⟩ := fin (some c) W3 hk
   exact ⟨_, _, hr, .inr ⟨rfl, c, (hIx' c).putObj _ hx (by omega) h3.lp rfl, h3.turn _⟩⟩
  intro e a3 W3 hp
  cases e with
  | normal =>
   obtain ⟨hk, hkp, hi3⟩ := hp
   obtain ⟨hr, h3⟩ := fin none W3 hk
   exact ⟨_, _, hr, .inl ⟨rfl, ⟨hI.putObj _ hi3 (by omega) h3.lp rfl, h3.turn _⟩, hKt hkb (hKt hkp (hKb _ _ _ _ (by omega) h3.lp rfl rfl))⟩⟩
  | ret => exact leave _ _ hp.1 hp.2
  | exit id => exact leave _ _ hp.1 hp.2
  | goto t => exact leave _ _ hp.1 hp.2
  | panic ch => exact hp.elim
  | outgrown => exact hp.elim
 ·rw [← hW1]; exact hI.alloc _ (hI.alloc _ h0)
 ·rintro e W2 ⟨⟨v, rfl⟩, (⟨xs, hS, hi, ht⟩ | ⟨pre, hSp, c, hi, ht⟩)⟩
  ·have h := run_endLoop (P := P) ht.lp (by rw [hR]; simp)
   rw [hR] at h
   exact ⟨none, _, h, hdone m xs _ (qN0) hS (hI.putObj _ hi (by omega) ht.lp rfl) ((World.putObj_heap_other (by omega)).trans ht.dfr)⟩
  ·have h := run_endLoop (P := P) ht.lp (by rw [hR]; simp)
   rw [hR] at h
   exact ⟨some c, _, h, hstop m c pre _ (qN0) hSp ((hIx' c).putObj _ hi (by omega) ht.lp rfl) ((World.putObj_heap_other (by omega)).trans ht.dfr)⟩
end Go.Proofs.YtnpnfajgphpabaaGreat
namespace Go.Proofs.YtnpnfajgphpabaaGreat
set_option maxRecDepth 100000
set_option maxHeartbeats 16000000
open Go.RowKit Go.Shelf
abbrev SegD (n : Nat) := { x : (Nat × Nat) × (Option Addr × Nat) // x.1.1 < x.1.2 ∧ x.1.2 ≤ n }
def rcZ : Rc := ⟨[], 0, ⟨0, [], [], [], []⟩⟩
def dcs (css : List (List Value)) (s e : Nat) : List (List Value) := ((css.drop s).take (e - s)).map fun cs => cs.drop 2
def ttlS (rs : List Rc) (s e : Nat) : Nat := leastM (rs.getD s rcZ).ttl ((rs.drop s).take (e - s))
def setV (vo : Nat → Value) (rs : List Rc) {n : Nat} (x : SegD n) : Array Value :=
 #[.agg #[vo x.1.1.1, .int .i64 (rs.getD x.1.1.1 rcZ).data.ty, .int .u32 (ttlS rs x.1.1.1 x.1.1.2 : Int), .slice x.1.2.1 (x.1.1.2 - x.1.1.1) x.1.2.2]]
def DatO (base : Nat) (css : List (List Value)) {n : Nat} (x : SegD n) (W : World) : Prop := OwnC 5 44 W base (.slice x.1.2.1 (x.1.1.2 - x.1.1.1) x.1.2.2) (dcs css x.1.1.1 x.1.1.2)
theorem qe3 {css : List (List Value)} {s e : Nat} (h : e ≤ css.length) : (dcs css s e).length = e - s := by unfold dcs; rw [List.length_map, List.length_take, List.length_drop]; omega
theorem qjX {css : List (List Value)} {s e : Nat} (h1 : s ≤ e) (h2 : e < css.length) : dcs css s (e + 1) = dcs css s e ++ [css[e].drop 2] := by
 unfold dcs
 obtain ⟨j, rfl⟩ : ∃ j, e = s + j := ⟨e - s, by omega⟩
 rw [show s + j + 1 - s = j + 1 by omega, show s + j - s = j by omega, List.take_succ_eq_append_getElem (by rw [List.length_drop]; omega), List.map_append]
 simp
theorem qjo {rs : List Rc} {s : Nat} : ttlS rs s s = (rs.getD s rcZ).ttl := by unfold ttlS; rw [Nat.sub_self]; rfl
theorem qjc {rs : List Rc} {s e : Nat} (h1 : s ≤ e) (h2 : e < rs.length) : ttlS rs s (e + 1) = minT (ttlS rs s e) rs[e].ttl := by
 unfold ttlS
 obtain ⟨j, rfl⟩ : ∃ j, e = s + j := ⟨e - s, by omega⟩
 rw [show s + j + 1 - s = j + 1 by omega, show s + j - s = j by omega, List.take_succ_eq_append_getElem (by rw [List.length_drop]; omega), qcD]
 simp
theorem qch {rs : List Rc} {s : Nat} (h : s < rs.length) : rs.getD s rcZ = rs[s] := by simp [List.getD, h]
theorem qjZ : ElemK 5 44 65 104 := ⟨Tryz.underlying65, _, _, rfl, rfl, rfl, rfl, rfl⟩
structure SetW (b1 : Nat) (a : Option Addr) (g off n c : Nat) (css : List (List Value)) (rs : List Rc) (vo vn vu vt vr : Nat → Option Addr × Nat × Nat) (Kp : World → World → Prop) (R : World → Prop) : Prop where
 c1 : ∀ W, R W → W.cell? ⟨b1, 0, none⟩ = some (.slice a n c)
 ha : 0 < n → a = some ⟨g, off, none⟩
 el : ∀ W, R W → ∀ k (hlt : k < css.length) (u0 u1 u2 u3 u4 u5 u6 : Value), css[k] = [u0, u1, u2, u3, u4, u5, u6] →
  W.cell? ⟨g, off + k * 7, none⟩ = some u0 ∧ W.cell? ⟨g, off + k * 7 + 1, none⟩ = some u1 ∧ W.cell? ⟨g, off + k * 7 + 2, none⟩ = some u2 ∧ W.cell? ⟨g, off + k * 7 + 3, none⟩ = some u3 ∧ W.cell? ⟨g, off + k * 7 + 4, none⟩ = some u4 ∧ W.cell? ⟨g, off + k * 7 + 5, none⟩ = some u5 ∧ W.cell? ⟨g, off + k * 7 + 6, none⟩ = some u6
 bel : ∀ W, R W → ∀ i j (hi : i < rs.length) (hj : j < css.length) (hj' : j < rs.length) (tt : Int) (a1 : Option Addr) (n1 c1 : Nat), Calls Tryz.prog 97 #[.agg #[.slice (vo i).1 (vo i).2.1 (vo i).2.2, .int .i64 rs[i].data.ty, .int .u32 tt, .slice a1 n1 c1], .agg css[j].toArray] W fun e W' => e = .returned (.bool (belR rs[i] rs[j])) ∧ Below W.heap.size W W'
 below : ∀ W W', R W → Below W.heap.size W W' → R W'
 kp : ∀ W W', R W → Kp W W' → R W'
 cell : ∀ k (hk : k < css.length) (hr : k < rs.length), css[k] = [.slice (vo k).1 (vo k).2.1 (vo k).2.2, .int .u32 (rs[k].ttl : Int), .int .i64 rs[k].data.ty, .slice (vn k).1 (vn k).2.1 (vn k).2.2, .slice (vu k).1 (vu k).2.1 (vu k).2.2, .slice (vt k).1 (vt k).2.1 (vt k).2.2, .slice (vr k).1 (vr k).2.1 (vr k).2.2]
structure SetB (wr : World) (b : Nat) (vo : Value) (ty : Int) (t : Nat) (vd : Value) (ds : List (List Value)) (W : World) : Prop where
 q : W.heap[b]? = some (.cells #[vo, .int .i64 ty, .int .u32 (t : Int), vd] 67)
 own : OwnC 5 44 W wr.heap.size vd ds
 below : Below wr.heap.size wr W
 hb : wr.heap.size ≤ b
theorem SetB.keep {wr W W' : World} {b : Nat} {vo vd : Value} {ty : Int} {t : Nat} {ds : List (List Value)} (h : SetB wr b vo ty t vd ds W) (hb : Below W.heap.size W W') : SetB wr b vo ty t vd ds W' :=
 ⟨(hb.block _ (qaa h.q)).trans h.q, OwnK.below h.own hb, h.below.trans (hb.mono h.below.size), h.hb⟩
theorem SetB.ttl {wr W : World} {b : Nat} {vo vd : Value} {ty : Int} {t : Nat} {ds : List (List Value)} (h : SetB wr b vo ty t vd ds W) (t' : Nat) : SetB wr b vo ty t' vd ds (W.setCell ⟨b, 2, none⟩ (.int .u32 (t' : Int))) :=
 ⟨kset h.q 2 _, OwnK.keptB h.own h.q (by decide) 2 _, h.below.setCell (p := ⟨b, 2, none⟩) h.hb _, h.hb⟩
theorem SetB.push {wr W W' : World} {b : Nat} {vo vd vd' : Value} {ty : Int} {t : Nat} {ds ds' : List (List Value)} (h : SetB wr b vo ty t vd ds W) (hg : W.grownBy W' vd.ownBlock) (ho : OwnC 5 44 W' wr.heap.size vd' ds') : SetB wr b vo ty t vd' ds' (W'.setCell ⟨b, 3, none⟩ vd') := by
 have hq := (hg.block b (qaa h.q) (OwnK.ne_block h.own h.q (by decide))).trans h.q
 exact ⟨kset hq 3 _, OwnK.keptB ho hq (by decide) 3 _, (h.below.grown hg h.below.size (OwnK.base_le h.own)).setCell (p := ⟨b, 3, none⟩) h.hb _, h.hb⟩
section
attribute [local go_sem] Oper.semAt_some
theorem qjO (nf : Nat) (hnf : 3 ≤ nf) (l b1 : Nat) (a : Option Addr) (g off n c : Nat) (hnc : n ≤ c) (hn63 : n ≤ 1048576) (css : List (List Value)) (rs : List Rc) (hcl : css.length = n) (hrl : rs.length = n) (vo vn vu vt vr : Nat → Option Addr × Nat × Nat) (base : Nat) (Kp : World → World → Prop) (R : World → Prop) (H : SetW b1 a g off n c css rs vo vn vu vt vr Kp R)
 (J Jx : List (SegD n) → World → Prop) (hJ : ∀ pre W W', J pre W → Below W.heap.size W W' → J pre W') (hB : ∀ W, R W → base ≤ W.heap.size)
 (hY : ∀ pre x W, J pre W → DatO base css x W → pre.length < n → YieldAt Fence.wide (nf - 1) Tryz.prog l (setV (fun k => .slice (vo k).1 (vo k).2.1 (vo k).2.2) rs x) W fun e W' =>
   (e = .returned (.bool true) ∧ J (pre ++ [x]) W' ∧ Kp W W') ∨ (e = .returned (.bool false) ∧ Jx (pre ++ [x]) W'))
 (W : World) (hR : R W) (h0 : J [] W) :
 CallsIn Fence.wide nf Tryz.prog 96 #[.func (.yield l) #[] #[], .pointer (some ⟨b1, 0, none⟩)] W fun e W' => (∃ v, e = .returned v) ∧
  ((∃ ys : List (SegD n), ys.map (·.1.1) = segsS rs ∧ J ys W') ∨ (∃ pre : List (SegD n), (pre.map (·.1.1) <+: segsS rs) ∧ Jx pre W')) := by
 have hn1' : 1 ≤ nf := by omega
 have HJJ := qH0 hJ
 have HCL := qH0 hcl; have HRL := qH0 hrl; have HBS := qH0 hB
 clear hJ hB
 have HR0 := qH0 hR
 have HJ0 := qH0 h0
 clear hR h0
 refine callsIn_of_wp Tryz.func96 rfl trivial ?_ rfl
 simp only [Tryz.ntmps96, List.size_toArray, List.length_cons, List.length_nil, Nat.reduceAdd, Nat.reduceSub, Array.replicate_succ, Array.replicate_zero, List.push_toArray, List.append_toArray, List.nil_append, List.cons_append]
 gi_wp2
 gi_loopw [3] (fun v3 wr => ∃ (s : Nat) (pre : List (SegD n)), v3 = .int .i64 s ∧ s ≤ n ∧ Hid (pre.map (·.1.1) ++ leftS rs s = segsS rs ∧ pre.length ≤ s) ∧ Hid (J pre wr) ∧ Hid (R wr))
  (fun v3 _ => n - (intOf v3).toNat)
 case atStart => exact ⟨0, [], rfl, Nat.zero_le _, qH0 ⟨rfl, Nat.zero_le _⟩, HJ0, HR0⟩
 case round =>
  obtain ⟨s, pre, rfl, hs, HP, HJ, HR⟩ := hrel
  generalize wr = w0 at *
  have hc0 := H.c1 _ HR.out
  by_cases hlt : s < n
  ·have ha := H.ha (by omega)
   subst ha
   have hltz : (s : Int) < (n : Int) := by omega
   have hsr : s < rs.length := by omega
   have hsc : s < css.length := by omega
   have es := H.cell s hsc hsr
   obtain ⟨e0, e1, e2, e3, e4, e5, e6⟩ := H.el _ HR.out s hsc _ _ _ _ _ _ _ es
   have hc2 : W.cell? ⟨0, 0, none⟩ = W.cell? ⟨0, 0, none⟩ := rfl
   have HT0 : ttlS rs s s = rs[s].ttl := by rw [qjo, qch hsr]
   have hty : (rs.getD s rcZ).data.ty = rs[s].data.ty := by rw [qch hsr]
   have HTY := qH0 hty
   clear hc2 hty
   gi_wp2_with fail
   clear e0 e1 e2 e3 e4 e5 e6 hc0
   gi_loopw [6] (fun v6 wq => ∃ (e : Nat) (ad : Option Addr) (cd : Nat), v6 = .int .i64 e ∧ s ≤ e ∧ e ≤ n ∧ Hid (e ≤ nxtS rs s) ∧ Hid (SetB w0 (w0.heap.size + 1) (.slice (vo s).1 (vo s).2.1 (vo s).2.2) rs[s].data.ty (ttlS rs s e) (.slice ad (e - s) cd) (dcs css s e) wq)) (fun v6 _ => n - (intOf v6).toNat)
   case atStart =>
    exact ⟨s, none, 0, rfl, qN0, by omega, qH0 (by have := qcj hsr; omega), qH0 (by
     rw [HT0, Nat.sub_self, show dcs css s s = [] by unfold dcs; rw [Nat.sub_self]; simp]
     refine ⟨?_, OwnK.nil _ _, ((Below.refl _ w0).alloc (qN0) _).alloc (by simp) _, by omega⟩
     have := knew (w0.alloc (.cells #[.slice (vo s).1 (vo s).2.1 (vo s).2.2, .int .u32 (rs[s].ttl : Int), .int .i64 rs[s].data.ty, .slice (vn s).1 (vn s).2.1 (vn s).2.2, .slice (vu s).1 (vu s).2.1 (vu s).2.2, .slice (vt s).1 (vt s).2.1 (vt s).2.2, .slice (vr s).1 (vr s).2.1 (vr s).2.2] 47)) (.cells #[.slice (vo s).1 (vo s).2.1 (vo s).2.2, .int .i64 rs[s].data.ty, .int .u32 (rs[s].ttl : Int), .slice none 0 0] 67)
     rw [World.size_alloc] at this
     exact this)⟩
   case round =>
    obtain ⟨e, ad, cd, rfl, he1, he2, HE, HS⟩ := hrel
    have hC := HS.out.keep (qbg wr)
    obtain ⟨t, ht⟩ : ∃ t, ttlS rs s e = t := ⟨_, rfl⟩
    obtain ⟨ds, hds⟩ : ∃ ds, dcs css s e = ds := ⟨_, rfl⟩
    obtain ⟨k, hk⟩ : ∃ k, e - s = k := ⟨_, rfl⟩
    rw [ht, hds, hk] at hC
    have HSE := qH0 (show SetB w0 (w0.heap.size + 1) (.slice (vo s).1 (vo s).2.1 (vo s).2.2) rs[s].data.ty t (.slice ad k cd) ds wr by rw [← ht, ← hds, ← hk]; exact HS.out)
    have HTE := qH0 ht; have HDE := qH0 hds; have HKE := qH0 hk
    clear ht hds hk HS
    by_cases hen : e < n
    ·have henz : (e : Int) < (n : Int) := by omega
     have her : e < rs.length := by omega
     have hec : e < css.length := by omega
     have ee := H.cell e hec her
     have hRp := fun p : WIn (fun W => SetB w0 (w0.heap.size + 1) (.slice (vo s).1 (vo s).2.1 (vo s).2.2) rs[s].data.ty t (.slice ad k cd) ds W) => H.below _ _ HR.out p.ok.below
     have hne : Nonempty (WIn (fun W => SetB w0 (w0.heap.size + 1) (.slice (vo s).1 (vo s).2.1 (vo s).2.2) rs[s].data.ty t (.slice ad k cd) ds W)) := ⟨⟨_, hC⟩⟩
     have k1 := fun p : WIn (fun W => SetB w0 (w0.heap.size + 1) (.slice (vo s).1 (vo s).2.1 (vo s).2.2) rs[s].data.ty t (.slice ad k cd) ds W) => H.c1 _ (hRp p)
     have f1 := fun p : WIn (fun W => SetB w0 (w0.heap.size + 1) (.slice (vo s).1 (vo s).2.1 (vo s).2.2) rs[s].data.ty t (.slice ad k cd) ds W) => H.el _ (hRp p) e hec _ _ _ _ _ _ _ ee
     have b0 := fun p : WIn (fun W => SetB w0 (w0.heap.size + 1) (.slice (vo s).1 (vo s).2.1 (vo s).2.2) rs[s].data.ty t (.slice ad k cd) ds W) => kcell p.ok.q 0 _ rfl; have b1' := fun p : WIn (fun W => SetB w0 (w0.heap.size + 1) (.slice (vo s).1 (vo s).2.1 (vo s).2.2) rs[s].data.ty t (.slice ad k cd) ds W) => kcell p.ok.q 1 _ rfl; have b2 := fun p : WIn (fun W => SetB w0 (w0.heap.size + 1) (.slice (vo s).1 (vo s).2.1 (vo s).2.2) rs[s].data.ty t (.slice ad k cd) ds W) => kcell p.ok.q 2 _ rfl; have b3 := fun p : WIn (fun W => SetB w0 (w0.heap.size + 1) (.slice (vo s).1 (vo s).2.1 (vo s).2.2) rs[s].data.ty t (.slice ad k cd) ds W) => kcell p.ok.q 3 _ rfl
     have j0 := fun p => (f1 p).1; have j1 := fun p => (f1 p).2.1; have j2 := fun p => (f1 p).2.2.1; have j3 := fun p => (f1 p).2.2.2.1; have j4 := fun p => (f1 p).2.2.2.2.1; have j5 := fun p => (f1 p).2.2.2.2.2.1; have j6 := fun p => (f1 p).2.2.2.2.2.2
     have hcg := fun p : WIn (fun W => SetB w0 (w0.heap.size + 1) (.slice (vo s).1 (vo s).2.1 (vo s).2.2) rs[s].data.ty t (.slice ad k cd) ds W) => Calls.cls (C := fun W => SetB w0 (w0.heap.size + 1) (.slice (vo s).1 (vo s).2.1 (vo s).2.2) rs[s].data.ty t (.slice ad k cd) ds W) ((H.bel _ (hRp p) s e hsr hec her (t : Int) ad k cd).mono fun _ _ ⟨hq, hb⟩ => ⟨hq, p.ok.keep hb⟩)
     rw [ee] at hcg
     obtain ⟨sm, hsm⟩ : ∃ sm, belR rs[s] rs[e] = sm := ⟨_, rfl⟩
     rw [hsm] at hcg
     have HSM := qH0 hsm; have HEE := qH0 ee
     clear f1 hsm ee
     cases sm
     ·gi_wp2_with fail
      refine wpIn_wide.2 ?_
      refine qad (fun W => SetB w0 (w0.heap.size + 1) (.slice (vo s).1 (vo s).2.1 (vo s).2.2) rs[s].data.ty t (.slice ad k cd) ds W) qae (by kernel_rfl) hC ?_
      repeat (go_big_quiet_step (exact hcg _))
      refine wpQuiet_nil ?_
      rintro _ ⟨p, rfl⟩
      have hse : s ≠ e := fun h => by subst h; have := HSM.out; rw [qcx] at this; cases this
      have HRp := qH0 (H.below _ _ HR.out p.ok.below)
      have HPOK := qH0 p.ok
      have hnx := qfD (rs := rs) (s := s) (e := e) hsr (by omega) HE.out (Or.inr ⟨her, HSM.out⟩)
      have hx : s < e ∧ e ≤ n := ⟨by omega, by omega⟩
      obtain ⟨fn, tmps, assign, body, hy, hRd⟩ := hY pre ⟨((s, e), (ad, cd)), hx⟩ p.w (HJJ.out _ _ _ HJ.out p.ok.below) (by
       have h := OwnK.weaken p.ok.own (HBS.out _ HR.out)
       show OwnC 5 44 p.w base (.slice ad (e - s) cd) (dcs css s e)
       rw [HDE.out, HKE.out]
       exact h) (by have := HP.out.2; omega)
      unfold setV at hy
      simp only at hy
      rw [HTY.out, HTE.out, HKE.out] at hy
      have y0 := kcell HPOK.out.q 0 _ rfl; have y1 := kcell HPOK.out.q 1 _ rfl; have y2 := kcell HPOK.out.q 2 _ rfl; have y3 := kcell HPOK.out.q 3 _ rfl
      have HRR := qH0 hRd
      have HNX := qH0 hnx
      have HX := qH0 hx
      clear hRd hnx hcg k1 b0 b1' b2 b3 j0 j1 j2 j3 j4 j5 j6 hRp
      gi_wp2
      refine HRR.out.mono ?_
      rintro e' W3 (⟨rfl, hJ3, hk3⟩ | ⟨rfl, hJx3⟩)
      ·have HR3 := qH0 (H.kp _ _ HRp.out hk3)
       have HJ3 := qH0 hJ3
       clear hJ3 hk3 HRR
       gi_wp2
       go_roundw
       case measure => simp [intOf]; omega
       case rel =>
        refine ⟨e, pre ++ [⟨((s, e), (ad, cd)), HX.out⟩], rfl, by omega, qH0 ⟨?_, by have := HP.out.2; simp; omega⟩, HJ3, HR3⟩
        have hp := HP.out.1
        rw [qbK hsr, ← HNX.out] at hp
        simpa using hp
      ·gi_wp2
       refine bodyPost_ret (results_none rfl _ _ _) rfl ?_
       exact ⟨⟨_, rfl⟩, .inr ⟨_, ⟨leftS rs e, by have hp := HP.out.1; rw [qbK hsr, ← HNX.out] at hp; simpa using hp⟩, hJx3⟩⟩
     ·gi_wp2_with fail
      refine wpIn_wide.2 ?_
      refine qad (fun W => SetB w0 (w0.heap.size + 1) (.slice (vo s).1 (vo s).2.1 (vo s).2.2) rs[s].data.ty t (.slice ad k cd) ds W) qae (by kernel_rfl) hC ?_
      repeat (go_big_quiet_step (exact hcg _))
      refine wpQuiet_nil ?_
      rintro _ ⟨p, rfl⟩
      have hS6 := p.ok.keep (qbg p.w)
      have hR6 := H.below _ _ HR.out hS6.below
      have q2 := kcell hS6.q 2 _ rfl
      have f2 := qag hS6.q 2
      have r1 := H.c1 _ hR6
      obtain ⟨-, m1, -⟩ := H.el _ hR6 e hec _ _ _ _ _ _ _ HEE.out
      obtain ⟨te, hte⟩ : ∃ te, rs[e].ttl = te := ⟨_, rfl⟩
      rw [hte] at m1
      obtain ⟨mt, hmt⟩ : ∃ m, minT t te = m := ⟨_, rfl⟩
      have hmz : min (t : Int) (te : Int) = (mt : Int) := by rw [← hmt, qgw]; omega
      have HT1 := qH0 (show ttlS rs s (e + 1) = mt by rw [qjc he1 her, HTE.out, hte, hmt])
      have HS6 := qH0 hS6
      clear hmt hte hcg k1 b0 b1' b2 b3 j0 j1 j2 j3 j4 j5 j6 hRp hS6 hR6 hC hne
      have mixed := (qae : Tryz.prog.follows .mixedOrders = true)
      generalize p.w = W6 at *
      gi_wp2_with fail
      refine wpIn_wide.2 ?_
      go_big_region_o
      all_goals
       obtain ⟨xe, hxe⟩ : ∃ x, rs[e].data.ty = x := ⟨_, rfl⟩
       have hS7 : SetB w0 (w0.heap.size + 1) (.slice (vo s).1 (vo s).2.1 (vo s).2.2) rs[s].data.ty mt (.slice ad k cd) ds ((W6.setCell ⟨w0.heap.size + 1, 2, none⟩ (.int .u32 (mt : Int))).drew) := HS6.out.ttl mt
       obtain ⟨W7, hW7⟩ : ∃ W, (W6.setCell ⟨w0.heap.size + 1, 2, none⟩ (.int .u32 (mt : Int))).drew = W := ⟨_, rfl⟩
       rw [hW7] at hS7 ⊢
       clear hW7 q2 f2 r1 m1 HS6
       have hS8 := hS7.keep (qbg W7)
       have hSX : SetB w0 (w0.heap.size + 1) (.slice (vo s).1 (vo s).2.1 (vo s).2.2) rs[s].data.ty mt (.slice ad k cd) ds ((W7.alloc (.cells #[.int .i64 xe, .slice (vn e).1 (vn e).2.1 (vn e).2.2, .slice (vu e).1 (vu e).2.1 (vu e).2.2, .slice (vt e).1 (vt e).2.1 (vt e).2.2, .slice (vr e).1 (vr e).2.1 (vr e).2.2] 44)).drew) := hS8.keep ((Below.refl _ W7.drew).alloc (qN0) _)
       have HSX := qH0 hSX
       have hR8 := H.below _ _ HR.out hS8.below
       have q3 := kcell hS8.q 3 _ rfl
       have q3' := kcell hSX.q 3 _ rfl
       have r1 := H.c1 _ hR8
       have rX := H.c1 _ (H.below _ _ HR.out hSX.below)
       obtain ⟨-, -, m2, m3, m4, m5, m6⟩ := H.el _ hR8 e hec _ _ _ _ _ _ _ HEE.out
       rw [hxe] at m2
       have HXE := qH0 hxe
       clear hxe
       have HDL := qH0 (show ds.length = k by rw [← HDE.out, qe3 (by omega), HKE.out])
       have HD5 := qH0 (show ∀ cs ∈ ([[.int .i64 xe, .slice (vn e).1 (vn e).2.1 (vn e).2.2, .slice (vu e).1 (vu e).2.1 (vu e).2.2, .slice (vt e).1 (vt e).2.1 (vt e).2.2, .slice (vr e).1 (vr e).2.1 (vr e).2.2]] : List (List Value)), cs.length = 5 by intro cs hc; rw [List.mem_singleton] at hc; subst hc; rfl)
       have HD1 := qH0 (show ∀ cs ∈ ([[.int .i64 xe, .slice (vn e).1 (vn e).2.1 (vn e).2.2, .slice (vu e).1 (vu e).2.1 (vu e).2.2, .slice (vt e).1 (vt e).2.1 (vt e).2.2, .slice (vr e).1 (vr e).2.1 (vr e).2.2]] : List (List Value)), ∀ u ∈ cs, u.oneCell' = true by
        intro cs hc u hu; rw [List.mem_singleton] at hc; subst hc
        simp only [List.mem_cons, List.not_mem_nil, or_false] at hu
        rcases hu with rfl | rfl | rfl | rfl | rfl <;> rfl)
       have HKN := qH0 (show k ≤ 1048576 by have := HKE.out; omega)
       have H8 := qH0 (fun (ops : Array Oper) (o : Oper) (a : Act) (K : Act → World → Prop) (Q : Exit → Act → World → Prop) (E : Prop) (h1 : o.guard = none) (h2 : o.op = .call { callee := .builtin .append, args := #[.tmp 46, .tmp 52], argTypes := #[65, 65] }) (h3 : a.eval (.tmp 46) = .slice ad k cd) (h4 : a.eval (.tmp 52) = .slice (some ⟨W7.heap.size, 0, none⟩) 1 1) h => qbM (ops := ops) (a := a) (K := K) (Q := Q) (E := E) ((W7.alloc (.cells #[.int .i64 xe, .slice (vn e).1 (vn e).2.1 (vn e).2.2, .slice (vu e).1 (vu e).2.1 (vu e).2.2, .slice (vt e).1 (vt e).2.1 (vt e).2.2, .slice (vr e).1 (vr e).2.1 (vr e).2.2] 44)).drew) h1 (.tmp 46) (.tmp 52) qjZ (by decide) h2 w0.heap.size _ ds h3 HSX.out.own _ [[.int .i64 xe, .slice (vn e).1 (vn e).2.1 (vn e).2.2, .slice (vu e).1 (vu e).2.1 (vu e).2.2, .slice (vt e).1 (vt e).2.1 (vt e).2.2, .slice (vr e).1 (vr e).2.1 (vr e).2.2]] h4 (qay (css := [[.int .i64 xe, .slice (vn e).1 (vn e).2.1 (vn e).2.2, .slice (vu e).1 (vu e).2.1 (vu e).2.2, .slice (vt e).1 (vt e).2.1 (vt e).2.2, .slice (vr e).1 (vr e).2.1 (vr e).2.2]]) (knew W7 _)) HD5.out HD1.out HSX.out.below.size (by have := HKN.out; rw [HDL.out]; unfold maxLen; simp <;> omega) (by have := HKN.out; rw [HDL.out]; simp <;> omega) h)
       clear hS7 hS8 hSX hR8
       gi_wp2_with fail
       refine wpIn_wide.2 ?_
       go_region_law ((with_reducible refine H8.out _ _ _ _ _ _ ?_ ?_ ?_ ?_ ?_); exact rfl; exact rfl; exact rfl; exact rfl; intro v8 w8 ho8 hg8; obtain ⟨a8, z8, e8⟩ := OwnK.shape ho8; rw [List.length_append, HDL.out] at e8; simp only [List.length_cons, List.length_nil, Nat.zero_add] at e8; subst e8; have HS9 := qH0 (HSX.out.push hg8 ho8); have hq8 := (hg8.block _ (qaa HSX.out.q) (OwnK.ne_block HSX.out.own HSX.out.q (by decide))).trans HSX.out.q; have c8 := kcell hq8 3 _ rfl; have f8 := qag hq8 3; clear ho8 hg8 hq8)
       all_goals
        have HNX := qH0 (show e + 1 ≤ nxtS rs s by
         rcases Nat.lt_or_ge s e with h | h
         ·exact qjk hsr h HE.out her HSM.out
         ·obtain rfl : e = s := by omega
          have := qcj hsr; omega)
        have HFI := qH0 (show SetB w0 (w0.heap.size + 1) (.slice (vo s).1 (vo s).2.1 (vo s).2.2) rs[s].data.ty (ttlS rs s (e + 1)) (.slice a8 (e + 1 - s) z8) (dcs css s (e + 1)) (w8.setCell ⟨w0.heap.size + 1, 3, none⟩ (.slice a8 (k + 1) z8)) by
         rw [HT1.out, qjX he1 hec, HDE.out, show e + 1 - s = k + 1 by have := HKE.out; omega]
         have e : css[e].drop 2 = [.int .i64 xe, .slice (vn e).1 (vn e).2.1 (vn e).2.2, .slice (vu e).1 (vu e).2.1 (vu e).2.2, .slice (vt e).1 (vt e).2.1 (vt e).2.2, .slice (vr e).1 (vr e).2.1 (vr e).2.2] := by rw [HEE.out, HXE.out]; rfl
         rw [e]; exact HS9.out)
        clear q3 q3' r1 rX m2 m3 m4 m5 m6 c8 f8 HS9
        gi_wp2
        go_roundw
        case measure => simp [intOf]; omega
        case rel => exact ⟨e + 1, a8, z8, by go_num, by omega, by omega, HNX, HFI⟩
    ·have henz : ¬ (e : Int) < (n : Int) := by omega
     have hRp := fun p : WIn (fun W => SetB w0 (w0.heap.size + 1) (.slice (vo s).1 (vo s).2.1 (vo s).2.2) rs[s].data.ty t (.slice ad k cd) ds W) => H.below _ _ HR.out p.ok.below
     have hne : Nonempty (WIn (fun W => SetB w0 (w0.heap.size + 1) (.slice (vo s).1 (vo s).2.1 (vo s).2.2) rs[s].data.ty t (.slice ad k cd) ds W)) := ⟨⟨_, hC⟩⟩
     have k1 := fun p : WIn (fun W => SetB w0 (w0.heap.size + 1) (.slice (vo s).1 (vo s).2.1 (vo s).2.2) rs[s].data.ty t (.slice ad k cd) ds W) => H.c1 _ (hRp p)
     gi_wp2_with fail
     refine wpIn_wide.2 ?_
     refine qad (fun W => SetB w0 (w0.heap.size + 1) (.slice (vo s).1 (vo s).2.1 (vo s).2.2) rs[s].data.ty t (.slice ad k cd) ds W) qae (by kernel_rfl) hC ?_
     repeat (go_big_quiet_step (fail))
     refine wpQuiet_nil ?_
     rintro _ ⟨p, rfl⟩
     have HRp := qH0 (H.below _ _ HR.out p.ok.below)
     have HPOK := qH0 p.ok
     have hnx := qfD (rs := rs) (s := s) (e := e) hsr (by omega) HE.out (Or.inl (by omega))
     have hx : s < e ∧ e ≤ n := ⟨by omega, by omega⟩
     obtain ⟨fn, tmps, assign, body, hy, hRd⟩ := hY pre ⟨((s, e), (ad, cd)), hx⟩ p.w (HJJ.out _ _ _ HJ.out p.ok.below) (by
      have h := OwnK.weaken p.ok.own (HBS.out _ HR.out)
      show OwnC 5 44 p.w base (.slice ad (e - s) cd) (dcs css s e)
      rw [HDE.out, HKE.out]
      exact h) (by have := HP.out.2; omega)
     unfold setV at hy
     simp only at hy
     rw [HTY.out, HTE.out, HKE.out] at hy
     have y0 := kcell HPOK.out.q 0 _ rfl; have y1 := kcell HPOK.out.q 1 _ rfl; have y2 := kcell HPOK.out.q 2 _ rfl; have y3 := kcell HPOK.out.q 3 _ rfl
     have HRR := qH0 hRd
     have HNX := qH0 hnx
     have HX := qH0 hx
     clear hRd hnx k1 hRp
     gi_wp2
     refine HRR.out.mono ?_
     rintro e' W3 (⟨rfl, hJ3, hk3⟩ | ⟨rfl, hJx3⟩)
     ·have HR3 := qH0 (H.kp _ _ HRp.out hk3)
      have HJ3 := qH0 hJ3
      clear hJ3 hk3 HRR
      gi_wp2
      go_roundw
      case measure => simp [intOf]; omega
      case rel =>
       refine ⟨e, pre ++ [⟨((s, e), (ad, cd)), HX.out⟩], rfl, by omega, qH0 ⟨?_, by have := HP.out.2; simp; omega⟩, HJ3, HR3⟩
       have hp := HP.out.1
       rw [qbK hsr, ← HNX.out] at hp
       simpa using hp
     ·gi_wp2
      refine bodyPost_ret (results_none rfl _ _ _) rfl ?_
      exact ⟨⟨_, rfl⟩, .inr ⟨_, ⟨leftS rs e, by have hp := HP.out.1; rw [qbK hsr, ← HNX.out] at hp; simpa using hp⟩, hJx3⟩⟩
  ·obtain rfl : s = n := by omega
   gi_wp2
   go_end0
   have hp := HP.out.1
   rw [qfM rs (by omega), List.append_nil] at hp
   exact ⟨⟨_, rfl⟩, .inl ⟨pre, hp, HJ.out⟩⟩
end
end Go.Proofs.YtnpnfajgphpabaaGreat
namespace Go.Proofs.YtnpnfajgphpabaaGreat
set_option maxRecDepth 20000
set_option maxHeartbeats 8000000
open Go.RowKit Go.Shelf
theorem qjK {W : World} {a : Option Addr} {n c c' : Nat} {xs : Nm} (h : StrsAt W (.slice a n c) xs) : StrsAt W (.slice a n c') xs := by
 obtain ⟨a1, c1, e, hx⟩ := h
 cases e
 exact ⟨_, _, rfl, hx⟩
theorem qls {W : World} {a : Option Addr} {c d : Nat} {xs : Nm} (h : NmAt W (.slice a xs.length c) xs) (hd : d ≤ xs.length) :
 (a = none ∧ xs = [] ∧ d = 0 ∧ c = 0) ∨ (∃ ad, a = some ad ∧ xs = [] ∧ d = 0) ∨ ∃ g off, a = some ⟨g, off, none⟩ ∧ NmAt W (.slice (if c = d then some ⟨g, off, none⟩ else some ⟨g, off + d, none⟩) (xs.length - d) (c - d)) (xs.drop d) := by
 obtain ⟨hA, a', n', c', e, hcap, hno⟩ := h
 cases e
 cases a with
 | none =>
  have h0 := hno rfl
  subst h0
  have hx : xs = [] := List.eq_nil_of_length_eq_zero (by omega)
  subst hx
  exact .inl ⟨rfl, rfl, by simpa using hd, rfl⟩
 | some ad =>
  by_cases hx : xs = []
  ·subst hx; exact .inr (.inl ⟨ad, rfl, rfl, by simpa using hd⟩)
  ·right; right
   obtain ⟨a1, c1, e1, h1⟩ := id hA
   cases e1
   rcases h1 with e | ⟨g, off, e, hg, hc⟩
   ·exact absurd e hx
   ·cases e
    exact ⟨g, off, rfl, qds hA hcap d hd _, qla hcap⟩
theorem qjs (v u : Value) (xs zs : Nm) (w : World) (hA : NmAt w v xs) (hU : StrsAt w u zs) (hk : NmOK xs) (hk2 : NmOK zs) :
 Calls Tryz.prog 63 #[v, u] w fun e w' => e = .returned (.bool (underN xs zs)) ∧ Below w.heap.size w w' := by
 obtain ⟨a, c, rfl, _⟩ := id hA.1
 obtain ⟨a2, c2, rfl, _⟩ := id hU
 have hl := hk.1; have hl2 := hk2.1
 have hcap : xs.length ≤ c := by obtain ⟨_, _, _, e, h, _⟩ := hA.2; cases e; exact h
 by_cases hlt : xs.length < zs.length
 ·have H0 : Hid (underN xs zs = false) := qH0 (qdo hlt)
  go_enter Tryz.func63, Tryz.ntmps63
  go_wp2
  go_ret
  exact ⟨by rw [H0.out]; rfl, qL0⟩
 ·have hS := fun v1 (h : StrsAt w v1 (xs.drop (xs.length - zs.length))) => qgB v1 (.slice a2 zs.length c2) (xs.drop (xs.length - zs.length)) zs w h hU ⟨by simp; omega, fun x hx => hk.2 x (List.mem_of_mem_drop hx)⟩ hk2
  have hu : underN xs zs = sameN (xs.drop (xs.length - zs.length)) zs := by
   unfold underN; rw [decide_eq_true (by omega), Bool.true_and]
  rw [← hu] at hS
  have hge : zs.length ≤ xs.length := by omega
  clear hu
  generalize underN xs zs = b at *
  rcases qls hA (d := xs.length - zs.length) (by omega) with ⟨rfl, rfl, hd, rfl⟩ | ⟨ad, rfl, rfl, hd⟩ | ⟨g, off, rfl, hD⟩
  ·obtain rfl : zs = [] := List.eq_nil_of_length_eq_zero (by simp at hge; simp [hge])
   have hS1 := hS (.slice none 0 0) (by rw [List.drop_nil]; exact ⟨_, _, rfl, .inl rfl⟩)
   clear hS hd hA hU
   simp only [List.length_nil] at hS1
   go_enter Tryz.func63, Tryz.ntmps63
   go_wp2_with (go_at_call 17; refine hS1.mono ?_; rintro e w2 ⟨rfl, hb2⟩)
   go_ret
   exact ⟨rfl, hb2⟩
  ·obtain rfl : zs = [] := List.eq_nil_of_length_eq_zero (by simp at hge; simp [hge])
   have hS1 := fun a' c' => hS (.slice a' 0 c') (by rw [List.drop_nil]; exact ⟨_, _, rfl, .inl rfl⟩)
   clear hS hd hA hU
   simp only [List.length_nil] at hS1
   go_enter Tryz.func63, Tryz.ntmps63
   go_wp2_with (go_at_call 17; (with_reducible refine (hS1 _ _).mono ?_); rintro e w2 ⟨rfl, hb2⟩)
   all_goals go_ret
   all_goals exact ⟨rfl, hb2⟩
  ·have hS1 := fun c' => hS _ (qjK (c' := c') hD.1)
   clear hS hA hU hD
   by_cases hcd : c = xs.length - zs.length
   ·rw [if_pos hcd] at hS1
    go_enter Tryz.func63, Tryz.ntmps63
    go_wp2_with (go_at_call 17; (with_reducible refine (hS1 _).mono ?_); rintro e w2 ⟨rfl, hb2⟩)
    all_goals go_ret
    all_goals exact ⟨rfl, hb2⟩
   ·rw [if_neg hcd] at hS1
    go_enter Tryz.func63, Tryz.ntmps63
    go_wp2_with (go_at_call 17; (with_reducible refine (hS1 _).mono ?_); rintro e w2 ⟨rfl, hb2⟩)
    all_goals go_ret
    all_goals exact ⟨rfl, hb2⟩
theorem qgX {xs : Nm} {k p : Nat} (h : xs.length = p + k + 1) (hp : p < xs.length) : xs.reverse.drop k = xs[p] :: xs.reverse.drop (k + 1) := by
 rw [List.drop_eq_getElem_cons (by simp; omega)]
 congr 1
 simp only [List.getElem_reverse]
 congr 1; omega
theorem qj8 (p q : Nm) (h : p = [] ∨ q = []) : cmpR p q = cmpI ((p.length : Int) - q.length) 0 := by
 cases p with
 | nil =>
  cases q with
  | nil => rfl
  | cons y t => simp only [cmpR]; unfold cmpI; rw [if_pos (by simp only [List.length_nil, List.length_cons]; omega)]
 | cons x r =>
  cases q with
  | nil => simp only [cmpR]; unfold cmpI; rw [if_neg (by simp only [List.length_nil, List.length_cons]; omega), if_pos (by simp only [List.length_nil, List.length_cons]; omega)]
  | cons y t => rcases h with h | h <;> cases h
theorem qd9 (v u : Value) (xs ys : Nm) (w : World) (hA : StrsAt w v xs) (hU : StrsAt w u ys) (hk : NmOK xs) (hk2 : NmOK ys) :
 Calls Tryz.prog 89 #[v, u] w fun e w' => e = .returned (.int .i64 (qai xs ys)) ∧ Below w.heap.size w w' := by
 obtain ⟨a, c, rfl, _⟩ := id hA
 obtain ⟨a2, c2, rfl, _⟩ := id hU
 have hm := hk.1
 have hm2 := hk2.1
 have hcell := fun W' (hb : Below w.heap.size w W') j hj => hA.cell hb j hj
 have hcell2 := fun W' (hb : Below w.heap.size w W') j hj => hU.cell hb j hj
 have hSg := fun (d : Int) W => qgK d W
 have hE := qH0 (show qai xs ys = cmpR (xs.reverse.drop 0) (ys.reverse.drop 0) from rfl)
 generalize qai xs ys = r at *
 obtain ⟨n, hn⟩ : ∃ n, xs.length = n := ⟨_, rfl⟩
 obtain ⟨m, hn2⟩ : ∃ m, ys.length = m := ⟨_, rfl⟩
 rw [hn] at hm ⊢
 rw [hn2] at hm2 ⊢
 have HN := qH0 hn; have HN2 := qH0 hn2
 clear hA hU hn hn2
 go_enter Tryz.func89, Tryz.ntmps89
 go_wp2
 go_loopw [5] (fun i wr => ∃ k : Nat, i = .int .i64 ((k : Int) + 1) ∧ k ≤ n ∧ k ≤ m ∧ Hid (r = cmpR (xs.reverse.drop k) (ys.reverse.drop k)) ∧ Below w.heap.size w wr) (fun i _ => n + 1 - (intOf i).toNat)
 case atStart => exact ⟨0, rfl, Nat.zero_le _, Nat.zero_le _, hE, qL0⟩
 case round =>
  obtain ⟨k, rfl, hkn, hkm, HC, hB⟩ := hrel
  by_cases hlt : k < n ∧ k < m
  ·obtain ⟨h1, h2⟩ := hlt
   obtain ⟨p, hp⟩ : ∃ p, n = p + k + 1 := ⟨n - k - 1, by omega⟩
   obtain ⟨q, hq⟩ : ∃ q, m = q + k + 1 := ⟨m - k - 1, by omega⟩
   have hkp : p < xs.length := by rw [HN.out]; omega
   have hkq : q < ys.length := by rw [HN2.out]; omega
   obtain ⟨g, off, rfl, hg, hc⟩ := hcell wr hB p hkp
   obtain ⟨g2, off2, rfl, hg2, hc2⟩ := hcell2 wr hB q hkq
   obtain ⟨s, hs0, hsz, hsv⟩ := str_of xs[p]
   obtain ⟨t, ht0, htz, htv⟩ := str_of ys[q]
   rw [hsv] at hc
   rw [htv] at hc2
   have hs1 := hk.get p hkp
   have ht1 := hk2.get q hkq
   have hF := fun W => qeh s t W (by omega) (by omega)
   have hBz := hB.size
   have hS0 : wr.cell? ⟨g, off + p, none⟩ = some (.string s) ∧ wr.cell? ⟨g2, off2 + q, none⟩ = some (.string t) ∧ Below w.heap.size w wr := ⟨hc, hc2, hB⟩
   have hr : Hid (r = if qac xs[p] ys[q] = 0 then cmpR (xs.reverse.drop (k + 1)) (ys.reverse.drop (k + 1)) else qac xs[p] ys[q]) := qH0 (by
    rw [HC.out, qgX (p := p) (by rw [HN.out]; exact hp) hkp, qgX (p := q) (by rw [HN2.out]; exact hq) hkq]; rfl)
   rw [hs0, ht0] at hF
   clear hs0 hsz hsv ht0 htz htv hs1 ht1 hcell hcell2 hk hk2 hc hc2 hB HC
   generalize qac xs[p] ys[q] = x at *
   have w1 : IntKind.i64.wrap ((n : Int) - ((k : Int) + 1)) = (p : Int) := by rw [IntWalk.i64_in _ (by omega)]; omega
   have w2 : IntKind.i64.wrap ((m : Int) - ((k : Int) + 1)) = (q : Int) := by rw [IntWalk.i64_in _ (by omega)]; omega
   have p0 : (0 : Int) ≤ (p : Int) := by omega
   have p1 : (p : Int) < (n : Int) := by omega
   have q0 : (0 : Int) ≤ (q : Int) := by omega
   have q1 : (q : Int) < (m : Int) := by omega
   have HP := qH0 hp; have HQ := qH0 hq
   have W1 := qH0 w1; have W2 := qH0 w2
   clear hp hq w1 w2
   have KS := qH0 (fun (W W' : World) (h : W.cell? ⟨g, off + p, none⟩ = some (.string s) ∧ W.cell? ⟨g2, off2 + q, none⟩ = some (.string t) ∧ Below w.heap.size w W) (hb : Below W.heap.size W W') => keepS2 h hb hg hg2 (qN0))
   by_cases hx : (x != 0) = true
   ·go_wp2
    have e1 := W1.out; have e2 := W2.out
    go_region_held3 (fun W' => W'.cell? ⟨g, off + p, none⟩ = some (.string s) ∧ W'.cell? ⟨g2, off2 + q, none⟩ = some (.string t) ∧ Below w.heap.size w W') (first | assumption | exact ⟨hS0.1, hS0.2.1, qaz hS0.2.2 1⟩) (first | ((with_reducible refine (hF _).mono ?_); rintro e w2 ⟨rfl, hb2⟩; have hS2 := KS.out _ _ (by assumption) hb2))
    clear e1 e2
    have HR : Hid (r = x) := qH0 (by rw [hr.out, if_neg (by simpa using hx)])
    go_wp2
    go_ret
    exact ⟨by rw [HR.out]; rfl, hS2.2.2⟩
   ·have hx0 : (x != 0) = false := by simpa using hx
    have HR : Hid (r = cmpR (xs.reverse.drop (k + 1)) (ys.reverse.drop (k + 1))) := qH0 (by rw [hr.out, if_pos (by simpa using hx0)])
    clear hx hr
    go_wp2
    have e1 := W1.out; have e2 := W2.out
    go_region_held3 (fun W' => W'.cell? ⟨g, off + p, none⟩ = some (.string s) ∧ W'.cell? ⟨g2, off2 + q, none⟩ = some (.string t) ∧ Below w.heap.size w W') (first | assumption | exact ⟨hS0.1, hS0.2.1, qaz hS0.2.2 1⟩) (first | ((with_reducible refine (hF _).mono ?_); rintro e w2 ⟨rfl, hb2⟩; have hS2 := KS.out _ _ (by assumption) hb2))
    clear e1 e2
    go_wp2
    go_roundw
    case rel => exact ⟨k + 1, by go_num, by omega, by omega, HR, hS2.2.2⟩
    case measure => simp [intOf]; omega
  ·have hd : Hid (r = cmpI ((n : Int) - m) 0) := qH0 (by
    have hl : (xs.reverse.drop k).length = n - k := by have := HN.out; simp; omega
    have hl2 : (ys.reverse.drop k).length = m - k := by have := HN2.out; simp; omega
    rw [HC.out, qj8 _ _ (by
     by_cases e : k < n
     ·right; exact List.eq_nil_of_length_eq_zero (by omega)
     ·left; exact List.eq_nil_of_length_eq_zero (by omega)), hl, hl2]
    congr 1; omega)
   have hb : (n : Int) < (k : Int) + 1 ∨ ((k : Int) + 1 ≤ n ∧ (m : Int) < (k : Int) + 1) := by omega
   rcases hb with hb | ⟨hb1, hb⟩
   all_goals
    go_wp2_with (go_at_call 110; refine (hSg _ _).mono ?_; rintro e w2 ⟨rfl, rfl⟩)
    go_ret
    exact ⟨by rw [hd.out]; rfl, hB⟩
theorem qfy (v u : Value) (n z : Nm) (r : Bool) (h : underN n z = r) (w : World) (hA : NmAt w v n) (hU : NmAt w u z) (h1 : NmOK n) (h2 : NmOK z) :
 Calls Tryz.prog 63 #[v, u] w fun e w' => e = .returned (.bool r) ∧ Below w.heap.size w w' := by
 subst h; exact qjs v u n z w hA hU.1 h1 h2
theorem qbS (v u : Value) (n z : Nm) (r : Bool) (h : sameN n z = r) (w : World) (hA : NmAt w v n) (hU : NmAt w u z) (h1 : NmOK n) (h2 : NmOK z) :
 Calls Tryz.prog 17 #[v, u] w fun e w' => e = .returned (.bool r) ∧ Below w.heap.size w w' := by
 subst h; exact qgB v u n z w hA.1 hU.1 h1 h2
theorem qd2 (v u : Value) (n z : Nm) (r : Int) (h : qai n z = r) (w : World) (hA : NmAt w v n) (hU : NmAt w u z) (h1 : NmOK n) (h2 : NmOK z) :
 Calls Tryz.prog 89 #[v, u] w fun e w' => e = .returned (.int .i64 r) ∧ Below w.heap.size w w' := by
 subst h; exact qd9 v u n z w hA.1 hU.1 h1 h2
theorem qiL (v : Value) (n : Nm) (r : Int) (h : checkN n = r) (w : World) (hA : NmAt w v n) (h1 : NmOK n) :
 Calls Tryz.prog 41 #[v] w fun e w' => e = .returned (.int .i64 r) ∧ Below w.heap.size w w' := by
 subst h; refine (qb8 v n w hA.1 h1).mono ?_
 rintro e w' ⟨rfl, rfl⟩; exact ⟨rfl, qL0⟩
theorem qkQ (v : Value) (n : Nm) (r : Bool) (h : wildN n = r) (w : World) (hA : NmAt w v n) (h1 : NmOK n) :
 Calls Tryz.prog 32 #[v] w fun e w' => e = .returned (.bool r) ∧ Below w.heap.size w w' := by
 subst h; refine (qjR v n w hA.1 h1).mono ?_
 rintro e w' ⟨rfl, rfl⟩; exact ⟨rfl, qL0⟩
def NmArg (W : World) (v : Value) (xs : Nm) : Prop := NmAt W v xs ∧ xs.length ≤ maxLen ∧ ∀ x ∈ xs, x.length ≤ maxLen
theorem qfC (W : World) : NmArg W (.slice none 0 0) [] := ⟨nm_nil W, Nat.zero_le _, by simp⟩
theorem qfA {W : World} {x : Addr} {l c : Nat} {zs : List ByteArray} (hl : l ≤ c) (hm : c ≤ maxLen) (hz : zs.length = c)
 (hcell : ∀ i, i < zs.length → W.cell? (x.add i) = some (.string (zs.getD i ByteArray.empty))) (hws : ∀ s ∈ zs, s.size ≤ maxLen) :
 NmArg W (.slice (some x) l c) ((zs.take l).map (·.data.toList)) := by
 have h := qhI hl hm hz hcell hws
 exact ⟨⟨h.1, _, _, _, rfl, hl, fun e => by cases e⟩, h.2⟩
theorem kn_Few (v : Value) (n : Nm) (r : Bool) (h : fewN n = r) (w0 w : World) (hA : NmArg w0 v n) (hA2 : NmAt w v n) :
 Calls Tryz.prog 40 #[v] w fun e w' => e = .returned (.bool r) ∧ Below w.heap.size w w' := by
 subst h; refine (qei v n w hA2.1 hA.2.1 hA.2.2).mono ?_
 rintro e w' ⟨rfl, rfl⟩; exact ⟨rfl, qL0⟩
theorem qk2 (v : Value) (n : Nm) (r : Bool) (h : goodN n = r) (w0 w : World) (hA : NmArg w0 v n) (hA2 : NmAt w v n) :
 Calls Tryz.prog 15 #[v] w fun e w' => e = .returned (.bool r) ∧ Below w.heap.size w w' := by
 subst h; refine (qju v n w hA2.1 hA.2.1 hA.2.2).mono ?_
 rintro e w' ⟨rfl, rfl⟩; exact ⟨rfl, qL0⟩
def fewD (d : Dat) : Bool := decide (d.names.length ≤ 8 ∧ d.nums.length ≤ 12 ∧ d.texts.length ≤ 40 ∧ d.raw.length ≤ 1100) && (decide (∀ n ∈ d.names, fewN n = true) && decide (∀ x ∈ d.texts, x.length ≤ 300))
def DatArg (W : World) (v : Value) (d : Dat) : Prop := DatAt W v d ∧ (-(2 ^ 63) ≤ d.ty ∧ d.ty < 2 ^ 63) ∧ (∀ n ∈ d.names, n.length ≤ maxLen ∧ ∀ x ∈ n, x.length ≤ maxLen) ∧ (∀ n ∈ d.nums, n < 2 ^ 32) ∧ (∀ x ∈ d.texts, x.length ≤ maxLen)
theorem qlb {W : World} {v : Value} {d : Dat} (h : DatArg W v d) (hf : fewD d = true) : DatOK d := by
 simp only [fewD, Bool.and_eq_true, decide_eq_true_eq] at hf
 obtain ⟨⟨f1, f2, f3, f4⟩, f5, f6⟩ := hf
 exact ⟨h.2.1, by omega, fun n hn => qdS (f5 n hn), by omega, h.2.2.2.1, ⟨by omega, fun x hx => by have := f6 x hx; omega⟩, by omega⟩
theorem qah {S T : TypeId} {k bytes : Nat} (W : World) (s x : Operand) (hE : ElemK k T S bytes) (hk0 : 0 < k)
 (base : Nat) (v : Value) (xs : List (List Value)) (hown : OwnC k T W base v xs)
 (src : Value) (ys : List (List Value)) (hsrc : SlK W src ys) (hyk : ∀ cs ∈ ys, cs.length = k) (hy1 : ∀ cs ∈ ys, ∀ u ∈ cs, u.oneCell' = true)
 (hbase : base ≤ W.heap.size) (hk : xs.length + ys.length ≤ maxLen) (hk2 : (xs.length + ys.length) * bytes ≤ 140737488355328)
 (ops : Array Oper) (o : Oper) (a : Act) (K : Act → World → Prop) (Q : Exit → Act → World → Prop) (E : Prop) (hgd : o.guard = none)
 (ho : o.op = .call { callee := .builtin .append, args := #[s, x], argTypes := #[S, S] }) (hs : a.eval s = v) (hx : a.eval x = src)
 (h : ∀ v' w', OwnC k T w' base v' (xs ++ ys) → W.grownBy w' v.ownBlock → K (a.put o.dst v') w') :
 if Region.wanted o (yielded ops a.tmps) = true then Oper.wp Tryz.prog o a W K Q else E :=
 qbM W hgd s x hE hk0 ho base v xs hs hown src ys hx hsrc hyk hy1 hbase hk hk2 h
end Go.Proofs.YtnpnfajgphpabaaGreat
