import Derived.Deep.CutBlock
import Derived.Deep.DeepCutAuto
import Derived.OrdersHeld
import Derived.OrdersIn
import Derived.RangeFuncCalls
import Derived.Deep.AppendLies
import Derived.Deep.RegionHeld3
import Derived.Test.YtnpnfajgphpabaaGreatMQ27
namespace Go.Proofs.YtnpnfajgphpabaaGreat
set_option linter.unusedVariables false
set_option linter.unusedSimpArgs false
set_option linter.unusedVariables false
set_option linter.unusedSimpArgs false
set_option maxRecDepth 100000
set_option maxHeartbeats 8000000
open Go.RowKit Go.Shelf
def AtPost (w : World) (fs : List Fl) (e : Ending) (w' : World) : Prop := ∃ (ga : Option Addr) (gn gc : Nat) (css : List (List Value)), e = .returned (.slice ga gn gc) ∧ OwnC 3 49 w' w.heap.size (.slice ga gn gc) css ∧ FrFls w' w.heap.size css fs ∧ Below w.heap.size w w'
theorem FOut.below {W0 W W' : World} {B : Nat} {fs : List Fl} (h : FOut W0 B fs W) (hb : Below W.heap.size W W') : FOut W0 B fs W' := by
 obtain ⟨ga, gn, gc, css, h1, h2, h3, h4⟩ := h
 exact ⟨ga, gn, gc, css, (hb.block B (qaa h1)).trans h1, OwnK.below h2 hb, ⟨h3.1, fun i a b => (h3.2 i a b).below hb⟩, qbb h4 hb⟩
def OfN (W : World) (r : Option St) (e : Ending) (w' : World) : Prop := ∃ (x0 x3 : Option Addr × Nat × Nat) (y t : Int), e = .returned (.tuple #[.agg #[.slice x0.1 x0.2.1 x0.2.2, .int .i64 y, .int .u32 t, .slice x3.1 ((r.getD ⟨[], 0, 0, []⟩).data.length) x3.2.2], .bool r.isSome]) ∧ Below W.heap.size W w'
theorem ofN {W w' : World} {r : Option St} {e : Ending} (h : OfPost W r e w') : OfN W r e w' := by
 obtain ⟨cs, rfl, h1, h2⟩ := h
 obtain ⟨x0, x3, rfl⟩ := h1.shape
 exact ⟨x0, x3, _, _, rfl, h2⟩
theorem qfv {w : World} {za : Option Addr} {zn zc : Nat} {v1 : Option Addr} {m c : Nat} {o : Nm} {rs : List Rc} (hZ : ZonS w za zn zc v1 m c o rs) :
 Calls Tryz.prog 18 #[.agg #[.slice za zn zc, .slice v1 m c]] w (AtPost w (at0M o rs)) := by
 obtain ⟨hzo, hzk, ⟨css, hA, hR⟩, hOK, hm20⟩ := id hZ
 have HOF := qH0 (fun (t : Int) W (hb : Below w.heap.size w W) => (qk9 v1 m c (.slice za zn zc) o t css rs W (hA.below hb) (hR.below hb) hOK (hzo.below hb) hzk hm20).mono fun _ _ h => ofN h)
 have HZW := qH0 (fun W (hb : Below w.heap.size w W) => hzo.below hb)
 obtain ⟨r6, hr6⟩ : ∃ r, ofM rs o 6 = r := ⟨_, rfl⟩
 obtain ⟨r2, hr2⟩ : ∃ r, ofM rs o 2 = r := ⟨_, rfl⟩
 have hof6 := HOF.out 6
 have hof2 := HOF.out 2
 rw [hr6] at hof6
 rw [hr2] at hof2
 have HF6 := qH0 hof6; have HF2 := qH0 hof2; have HZK := qH0 hzk
 obtain ⟨f1, hf1⟩ : ∃ f, (match r6 with | none => [⟨1, o, 6⟩] | some s => if 1 < s.data.length then [⟨2, o, 6⟩] else [] : List Fl) = f := ⟨_, rfl⟩
 obtain ⟨f2, hf2⟩ : ∃ f, (match r2 with | none => [⟨3, o, 2⟩] | some _ => [] : List Fl) = f := ⟨_, rfl⟩
 have HAT : Hid (at0M o rs = f1 ++ f2) := qH0 (by unfold at0M; rw [hr6, hr2, ← hf1, ← hf2]; cases r6 <;> cases r2 <;> rfl)
 generalize at0M o rs = res at *
 have HF1 := qH0 hf1; have HFF2 := qH0 hf2
 clear hZ hzo hzk hA hR hOK hof6 hof2 hr6 hr2 hf1 hf2 HOF
 obtain ⟨W0, hW0⟩ : ∃ W0, (w.alloc (.cells #[.slice za zn zc, .slice v1 m c] 31)).alloc (.cells #[.slice none 0 0] 28) = W0 := ⟨_, rfl⟩
 have hB0 : Below w.heap.size w W0 := by rw [← hW0]; exact ((Below.refl w.heap.size w).alloc (qN0) _).alloc (by simp) _
 have x0 : W0.heap[w.heap.size]? = some (.cells #[.slice za zn zc, .slice v1 m c] 31) := by
  rw [← hW0]; exact (Below.heap_alloc _ _ _ (by simp)).trans (knew w _)
 have x1 : W0.heap[w.heap.size + 1]? = some (.cells #[.slice none 0 0] 28) := by
  have h := knew (w.alloc (.cells #[.slice za zn zc, .slice v1 m c] 31)) (.cells #[.slice none 0 0] 28)
  rw [World.size_alloc] at h
  rw [← hW0]; exact h
 have HO0 : Hid (FOut W0 (w.heap.size + 1) [] W0) := qH0 ⟨none, 0, 0, [], x1, OwnK.nil _ _, ⟨rfl, fun i a => absurd a (by simp)⟩, qcG _ _⟩
 have HWK := qH0 (fun W' (hg : W0.grownBy W' (some (w.heap.size + 1))) => (show W'.heap[w.heap.size]? = some (.cells #[.slice za zn zc, .slice v1 m c] 31) ∧ Below w.heap.size w W' from ⟨(hg.block _ (qaa x0) (fun e => by injection e; omega)).trans x0, hB0.trans (kg_to hg (by omega) hB0.size)⟩))
 have HCL := qH0 (fun (k t : Int) (fs : List Fl) W' (h : FOut W0 (w.heap.size + 1) fs W') (hl : fs.length ≤ 10000000) => (by
  have hg : W0.grownBy W' (some (w.heap.size + 1)) := by obtain ⟨_, _, _, _, _, _, _, h4⟩ := h; exact h4
  obtain ⟨q1, q2⟩ := HWK.out W' hg
  exact qj0 k t h q1 (HZW.out W' q2) HZK.out hl : Calls Tryz.prog 45 #[.int .i64 k, .int .i64 t, .pointer (some ⟨w.heap.size + 1, 0, none⟩), .pointer (some ⟨w.heap.size, 0, none⟩)] W' fun e W'' => e = .returned (.tuple #[]) ∧ FOut W0 (w.heap.size + 1) (fs ++ [⟨k, o, t⟩]) W''))
 have HGR := qH0 (fun (fs : List Fl) W' (h : FOut W0 (w.heap.size + 1) fs W') => (show W0.grownBy W' (some (w.heap.size + 1)) from by obtain ⟨_, _, _, _, _, _, _, h4⟩ := h; exact h4))
 have y0 := kcell x0 0 (.slice za zn zc) rfl; have y1 := kcell x0 1 (.slice v1 m c) rfl
 have hc := HF6.out W0 hB0
 have HSB := qH0 hB0.size
 clear x0 x1 hB0
 go_enter Tryz.func18, Tryz.ntmps18
 go_wp2_with fail
 clear hW0
 refine hc.mono ?_
 rintro e w1 ⟨z0, z3, zy, zt, rfl, hb1⟩
 clear hc y0 y1
 obtain ⟨p0, p1, p2⟩ := z0; obtain ⟨q0, q1, q2⟩ := z3
 simp only
 go_upto_block 0 with fail
 go_cut [] (fun wx => Hid (FOut W0 (w.heap.size + 1) f1 wx))
 case first =>
  have hf0 : FOut W0 (w.heap.size + 1) [] (w1.alloc (.cells #[.slice p0 p1 p2, .int .i64 zy, .int .u32 zt, .slice q0 ((r6.getD ⟨[], 0, 0, []⟩).data.length) q2] 67)) := (HO0.out.below hb1).below ((Below.refl _ w1).alloc (qN0) _)
  cases r6 with
  | none =>
   have hc := HCL.out 1 6 [] _ hf0 (by simp)
   simp only [Option.getD_none, List.length_nil, Option.isSome_none] at hc ⊢
   clear hf0 hb1
   go_wp2_with fail
   refine hc.mono ?_
   rintro e w3 ⟨rfl, hf3⟩
   have H3 := qH0 hf3
   clear hc hf3
   go_wp2_with fail
   go_meet
   exact qH0 (by rw [← HF1.out]; exact H3.out)
  | some s =>
   by_cases hq : 1 < s.data.length
   ·have hc := HCL.out 2 6 [] _ hf0 (by simp)
    simp only [Option.getD_some, Option.isSome_some] at hc ⊢
    have HE : Hid (f1 = [⟨2, o, 6⟩]) := qH0 (by rw [← HF1.out]; simp [hq])
    have hqz : (1 : Int) < (s.data.length : Int) := by omega
    generalize s.data.length = dn at *
    clear hf0 hb1 hq HF1
    go_wp2_with fail
    refine hc.mono ?_
    rintro e w3 ⟨rfl, hf3⟩
    have H3 := qH0 hf3
    clear hc hf3
    go_wp2_with fail
    go_meet
    exact qH0 (by rw [HE.out]; exact H3.out)
   ·have HE : Hid (f1 = []) := qH0 (by rw [← HF1.out]; simp [hq])
    have hqz : ¬ (1 : Int) < (s.data.length : Int) := by omega
    simp only [Option.getD_some, Option.isSome_some] at hf0 ⊢
    have HF0 := qH0 hf0
    generalize s.data.length = dn at *
    clear hf0 hb1 hq HF1
    go_wp2_with fail
    go_meet
    exact qH0 (by rw [HE.out]; exact HF0.out)
 case rest =>
 rename World => W2
 have HL1 : Hid (f1.length ≤ 1) := qH0 (by
  rw [← HF1.out]
  cases r6 with
  | none => simp
  | some s => simp only; split <;> simp)
 have HC2 := hcut
 obtain ⟨g1, g2⟩ := HWK.out W2 (HGR.out f1 W2 HC2.out)
 have y0 := kcell g1 0 (.slice za zn zc) rfl; have y1 := kcell g1 1 (.slice v1 m c) rfl
 have hc := HF2.out W2 g2
 clear g1 g2 hcut HF1 HF2 HF6
 go_wp2_with fail
 refine hc.mono ?_
 rintro e w3 ⟨z0, z3, zy2, zt2, rfl, hb3⟩
 have H3 := qH0 (HC2.out.below hb3)
 clear hc y0 y1 hb3 HC2
 obtain ⟨p0', p1', p2'⟩ := z0; obtain ⟨q0', q1', q2'⟩ := z3
 simp only
 go_upto_if 39 with (fail)
 go_cut [] (fun wx => Hid (FOut W0 (w.heap.size + 1) (f1 ++ f2) wx))
 case first =>
  have hf0 := H3.out.below ((Below.refl _ w3).alloc (qN0) (.cells #[.slice p0' p1' p2', .int .i64 zy2, .int .u32 zt2, .slice q0' ((r2.getD ⟨[], 0, 0, []⟩).data.length) q2'] 67))
  cases r2 with
  | none =>
   have hc := HCL.out 3 2 f1 _ hf0 (by have := HL1.out; omega)
   simp only [Option.getD_none, List.length_nil, Option.isSome_none] at hc ⊢
   clear hf0
   go_wp2_with fail
   refine hc.mono ?_
   rintro e w4 ⟨rfl, hf3⟩
   have H4 := qH0 hf3
   clear hc hf3
   go_wp2_with fail
   go_meet
   exact qH0 (by rw [← HFF2.out]; exact H4.out)
  | some s =>
   simp only [Option.getD_some, Option.isSome_some] at hf0 ⊢
   have HF0 := qH0 hf0
   generalize s.data.length = dn at *
   clear hf0
   go_wp2_with fail
   go_meet
   exact qH0 (by rw [← HFF2.out, List.append_nil]; exact HF0.out)
 case rest =>
 rename World => W5
 obtain ⟨ga, gn, gc, css, k1, k2, k3, k4⟩ := hcut.out
 have c0 := kcell k1 0 (.slice ga gn gc) rfl
 have hww := (HWK.out W5 k4).2
 have hsb := HSB.out
 have HFIN : Hid (AtPost w (f1 ++ f2) (.returned (.slice ga gn gc)) W5) := qH0 ⟨ga, gn, gc, css, rfl, OwnK.weaken k2 hsb, ⟨k3.1, fun i a b => (k3.2 i a b).weaken hsb⟩, hww⟩
 clear k1 k2 k3 k4 hww hcut hsb H3
 go_wp2
 go_ret
 rw [HAT.out]
 exact HFIN.out
end Go.Proofs.YtnpnfajgphpabaaGreat
namespace Go.Proofs.YtnpnfajgphpabaaGreat
set_option linter.unusedVariables false
set_option linter.unusedSimpArgs false
set_option maxRecDepth 20000
open Go.RowKit Go.Shelf
def OnlyN (Q : Exit → Act → World → Prop) : Exit → Act → World → Prop
 | .normal, a, w => Q .normal a w
 | _, _, _ => False
def qhU : Op → Bool
 | .defer _ => true
 | _ => false
def qcL (ops : Array Oper) : Bool := ops.toList.all fun o => !qhU o.op
theorem qgx {ops : Array Oper} (h : qcL ops = true) {i : Nat} {o : Oper} (ho : ops[i]? = some o) (c : _) : o.op ≠ .defer c := fun e => by
 unfold qcL at h
 rw [List.all_eq_true] at h
 have hm : o ∈ ops.toList := by
  rw [← Array.getElem?_toList] at ho
  exact List.mem_of_getElem? ho
 have := h o hm
 rw [e] at this
 simp [qhU] at this
section
variable {P : Program} {md : Region.Mode} {ops : Array Oper} {Q : Exit → Act → World → Prop}
theorem qgW {l n i : Nat} {K K' : Act → World → Prop} {a : Act} {w : World} (hd : qcL ops = true) (hK : ∀ a w, K a w → K' a w) (h : wpOp P ops (OnlyN Q) i K a w) : wpOpIn (Fence.wide.inRound l) n P ops Q i K' a w := by
 unfold wpOp at h
 unfold wpOpIn
 cases ho : ops[i]? with
 | none => simp only [ho] at h ⊢; exact hK _ _ h
 | some o =>
  simp only [ho] at h ⊢
  by_cases hw : Region.wanted o (yielded ops a.tmps) = true
  ·rw [if_pos hw] at h ⊢
   rcases h with h | ⟨_, a', w', h⟩
   ·refine ⟨fun _ _ => trivial, ?_⟩
    rw [Oper.semAt_eq _ _ _ (fun c => qgx hd ho c)]
    unfold Oper.wp at h
    have hnd : (Fence.wide.inRound l).depth.isSome = true → 1 ≤ n := fun e => by cases e
    generalize (execOp a.eval o).run P w = r at h
    cases r with
    | ok x w' =>
     cases x <;> simp only [Oper.upon, Oper.uponIn] at h ⊢
     case value v => exact hK _ _ h
     case skip => exact hK _ _ h
     case defer d => exact hK _ _ h
     case enter f args =>
      refine ⟨hnd, CallsIn.inRound l (callsIn_wide.2 (Calls.mono h fun e w'' he => ?_))⟩
      cases e with
      | returned v => exact hK _ _ he
      | panicked c => exact (he : False).elim
      | outgrown => obtain ⟨_, _, q⟩ := he; exact (q : False).elim
     case row row args =>
      refine ⟨hnd, ?_⟩
      intro b cs hb
      obtain ⟨v, w'', q, s⟩ := h b cs
      exact ⟨v, w'', hK _ _ q, stepsIn_wide.2 s⟩
    | halt x w' =>
     cases x <;> simp only [Oper.upon, Oper.uponIn] at h ⊢
     case panic v => exact (h : False).elim
   ·exact (h : False).elim
  ·rw [if_neg hw] at h ⊢
   exact ⟨fun _ _ => trivial, hK _ _ h⟩
theorem qc8 {l n : Nat} (hd : qcL ops = true) : ∀ (fuel : Nat) (listed : Array Bool) (a : Act) (w : World), wpAny P md ops (OnlyN Q) fuel listed a w → wpAnyIn (Fence.wide.inRound l) n P md ops Q fuel listed a w
 | 0, _, _, _, h => ⟨h.1, h.2⟩
 | fuel + 1, _, _, _, h => ⟨h.1, fun i hi => qgW hd (fun a w hk => qc8 hd fuel _ a w hk) (h.2 i hi)⟩
theorem qdW {l n id : Nat} {a : Act} {w : World} {S : World → Prop} (hm : P.follows .mixedOrders = true) (hd : qcL ops = true) (hS : S w.drew)
 (h : S w.drew → wpAnyH P .any ops (OnlyN Q) S ops.size (Array.replicate ops.size false) a w.drew) : (Code.region id ops true).wpIn (Fence.wide.inRound l) n P Q a w :=
 wpIn_region_any hm (qc8 hd _ _ _ _ (wpAny_of_held _ _ _ _ (h hS)))
end
end Go.Proofs.YtnpnfajgphpabaaGreat
namespace Go.Proofs.YtnpnfajgphpabaaGreat
set_option linter.unusedVariables false
set_option linter.unusedSimpArgs false
set_option maxRecDepth 20000
open Go.RowKit Go.Shelf
def KpZ (n0 n1 : Nat) (W3 W : World) : Prop := W.os = W3.os ∧ W.tape = W3.tape ∧ W.output = W3.output ∧ W3.heap.size ≤ W.heap.size ∧ ∀ i, i < W3.heap.size → (i < n0 ∨ n1 ≤ i) → W.heap[i]? = W3.heap[i]?
theorem KpZ.refl (n0 n1 : Nat) (W : World) : KpZ n0 n1 W W := ⟨rfl, rfl, rfl, qN0, fun _ _ _ => rfl⟩
theorem KpZ.grown {n0 n1 : Nat} {W3 W W' : World} {row : Option Nat} (h : KpZ n0 n1 W3 W) (hg : W.grownBy W' row) (hr : ∀ k, row = some k → n0 ≤ k ∧ (k < n1 ∨ W3.heap.size ≤ k)) : KpZ n0 n1 W3 W' := by
 obtain ⟨h1, h2, h3, h4, h5⟩ := h
 refine ⟨hg.os.trans h1, hg.tape.trans h2, hg.output.trans h3, Nat.le_trans h4 hg.size, fun i hi hp => (hg.block i (Nat.lt_of_lt_of_le hi h4) (fun e => ?_)).trans (h5 i hi hp)⟩
 have := hr i e.symm
 omega
theorem KpZ.below {n0 n1 : Nat} {W3 W W' : World} (h : KpZ n0 n1 W3 W) (hb : Below W.heap.size W W') : KpZ n0 n1 W3 W' := h.grown (row := none) ⟨hb.os, hb.tape, hb.output, hb.size, fun i hi _ => hb.block i hi⟩ (fun k e => by cases e)
theorem KpZ.to {n n0 n1 : Nat} {a W3 W : World} (h : KpZ n0 n1 W3 W) (hb : Below n a W3) (hn : n ≤ n0) (ha : n ≤ a.heap.size) : Below n a W :=
 hb.trans ⟨h.1, h.2.1, h.2.2.1, h.2.2.2.1, fun i hi => h.2.2.2.2 i (Nat.lt_of_lt_of_le hi (Nat.le_trans ha hb.size)) (.inl (by omega))⟩
def FZ (n0 n1 : Nat) (W3 : World) (B : Nat) (fs : List Fl) (W : World) : Prop := ∃ (ga : Option Addr) (gn gc : Nat) (css : List (List Value)), W.heap[B]? = some (.cells #[.slice ga gn gc] 28) ∧ OwnC 3 49 W n0 (.slice ga gn gc) css ∧ FrFls W n0 css fs ∧ (∀ g, (Value.slice ga gn gc).ownBlock = some g → n0 ≤ g ∧ (g < n1 ∨ W3.heap.size ≤ g)) ∧ KpZ n0 n1 W3 W
theorem FZ.below {n0 n1 : Nat} {W3 : World} {B : Nat} {fs : List Fl} {W W' : World} (h : FZ n0 n1 W3 B fs W) (hb : Below W.heap.size W W') : FZ n0 n1 W3 B fs W' := by
 obtain ⟨ga, gn, gc, css, h1, h2, h3, h4, h5⟩ := h
 exact ⟨ga, gn, gc, css, (hb.block B (qaa h1)).trans h1, OwnK.below h2 hb, ⟨h3.1, fun i a b => (h3.2 i a b).below hb⟩, h4, h5.below hb⟩
theorem fz_own {n0 n1 : Nat} {W3 : World} {B : Nat} {α : Type} {f : List α → List Fl} (hB : B < W3.heap.size) (h0 : n0 ≤ W3.heap.size) : OwnFrom W3.heap.size (fun pre W => FZ n0 n1 W3 B (f pre) W) := by
 rintro pre W W' row ⟨ga, gn, gc, css, h1, h2, h3, h4, h5⟩ hg hr
 have hr2 : ∀ r, row = some r → ∃ o : Obj, W.heap[r]? = some o ∧ o.isCells = false := fun r e => (hr r e).2
 exact ⟨ga, gn, gc, css, (hg.block B (qaa h1) (fun e => by have := (hr B e.symm).1; omega)).trans h1, OwnC.keptO h2 hg hr2, ⟨h3.1, fun i a b => (h3.2 i a b).keptO hg hr2⟩, h4, h5.grown hg (fun k e => by have := (hr k e).1; omega)⟩
theorem FZ.step {n0 n1 : Nat} {W3 w7 w8 : World} {B : Nat} {fs : List Fl} {ga : Option Addr} {gn gc : Nat} {css : List (List Value)} {k t : Int} {vo : Value} {o : Nm} {g8 n8 c8 : Nat} (hB : n0 ≤ B ∧ B < n1)
 (hx : w7.heap[B]? = some (.cells #[.slice ga gn gc] 28)) (hown : OwnC 3 49 w7 n0 (.slice ga gn gc) css) (hfr : FrFls w7 n0 css fs) (hloc : ∀ g, (Value.slice ga gn gc).ownBlock = some g → n0 ≤ g ∧ (g < n1 ∨ W3.heap.size ≤ g)) (hkp : KpZ n0 n1 W3 w7) (hn : OwnG 9 strV w7 n0 vo o)
 (hown8 : OwnC 3 49 w8 n0 (.slice (some ⟨g8, 0, none⟩) n8 c8) (css ++ [[.int .i64 k, vo, .int .i64 t]])) (hg8 : (w7.alloc (.cells #[.int .i64 k, vo, .int .i64 t] 49)).grownBy w8 (Value.slice ga gn gc).ownBlock) (hl8 : (Value.slice ga gn gc).ownBlock = some g8 ∨ g8 = w7.heap.size + 1) :
 FZ n0 n1 W3 B (fs ++ [⟨k, o, t⟩]) (w8.setCell ⟨B, 0, none⟩ (.slice (some ⟨g8, 0, none⟩) n8 c8)) ∧ w8.heap[B]? = some (.cells #[.slice ga gn gc] 28) ∧ ∀ (B6 : Nat) (xs : Array Value) (T : TypeId), T ≠ 49 → B6 ≠ B → w7.heap[B6]? = some (.cells xs T) → (w8.setCell ⟨B, 0, none⟩ (.slice (some ⟨g8, 0, none⟩) n8 c8)).heap[B6]? = some (.cells xs T) := by
 have hbA := (Below.refl w7.heap.size w7).alloc (qN0) (.cells #[.int .i64 k, vo, .int .i64 t] 49)
 have hown7 := OwnK.below hown hbA
 have hx7 := (hbA.block _ (qaa hx)).trans hx
 have hx8 : w8.heap[B]? = some (.cells #[.slice ga gn gc] 28) := (hg8.block B (qaa hx7) (fun e => OwnK.ne_block hown7 hx7 (by decide) e)).trans hx7
 have hfr8 : FrFls w8 n0 (css ++ [[.int .i64 k, vo, .int .i64 t]]) (fs ++ [⟨k, o, t⟩]) := by
  refine FrFls.snoc ⟨hfr.1, fun i a b => ((hfr.2 i a b).below hbA).kept_c hown7 (by decide) hg8⟩ ?_
  exact ⟨vo, rfl, (hn.below hbA).kept_c hown7 (by decide) hg8⟩
 refine ⟨⟨some ⟨g8, 0, none⟩, n8, c8, _, kset hx8 0 _, OwnK.keptB hown8 hx8 (by decide) 0 _, ⟨hfr8.1, fun i a b => (hfr8.2 i a b).keptB hx8 (by decide) 0 _⟩, ?_, ?_⟩, hx8, ?_⟩
 ·intro g e
  simp only [Value.ownBlock, Option.some.injEq] at e
  subst e
  rcases hl8 with h | h
  ·exact hloc _ h
  ·have h4 := hkp.2.2.2.1
   have h5 := OwnK.base_le hown8 g8 rfl
   exact ⟨h5, .inr (by omega)⟩
 ·exact ((hkp.below hbA).grown hg8 (fun q e => hloc q e)).grown (qaf w8 B 0 _) (fun q e => by cases e; exact ⟨hB.1, .inl hB.2⟩)
 ·intro B6 xs T hT hne h6
  have h67 := (hbA.block _ (qaa h6)).trans h6
  have h68 : w8.heap[B6]? = some (.cells xs T) := (hg8.block B6 (qaa h67) (fun e => OwnK.ne_block hown7 h67 hT e)).trans h67
  exact ((qaf w8 B 0 _).block B6 (qaa h68) (fun e => hne (by injection e))).trans h68
theorem qbP {ops : Array Oper} {o : Oper} {a : Act} {K : Act → World → Prop} {Q : Exit → Act → World → Prop} {E : Prop} (w7 : World) (kd tx : Int) (ya : Option Addr) (no yc n0 : Nat) (fa : Option Addr) (fn fc : Nat) (css : List (List Value)) (hown : OwnC 3 49 (w7.alloc (.cells #[.int .i64 kd, .slice ya no yc, .int .i64 tx] 49)) n0 (.slice fa fn fc) css) (hn0 : n0 ≤ w7.heap.size) (hl : css.length ≤ 10000000)
 (h1 : o.guard = none) (s x : Operand) (h2 : o.op = .call { callee := .builtin .append, args := #[s, x], argTypes := #[28, 28] }) (h3 : a.eval s = .slice fa fn fc) (h4 : a.eval x = .slice (some ⟨w7.heap.size, 0, none⟩) 1 1)
 (h : ∀ (g8 n8 c8 : Nat) (w8 : World), OwnC 3 49 w8 n0 (.slice (some ⟨g8, 0, none⟩) n8 c8) (css ++ [[.int .i64 kd, .slice ya no yc, .int .i64 tx]]) → (w7.alloc (.cells #[.int .i64 kd, .slice ya no yc, .int .i64 tx] 49)).grownBy w8 (Value.slice fa fn fc).ownBlock → ((Value.slice fa fn fc).ownBlock = some g8 ∨ g8 = w7.heap.size + 1) → K (a.put o.dst (.slice (some ⟨g8, 0, none⟩) n8 c8)) w8) :
 if Region.wanted o (yielded ops a.tmps) = true then Oper.wp Tryz.prog o a (w7.alloc (.cells #[.int .i64 kd, .slice ya no yc, .int .i64 tx] 49)) K Q else E := by
 obtain ⟨ht, i, z, hi, hz, hz1, hz2, hzc⟩ := qhZ
 refine step_append_lies _ h1 s x _ h2 n0 49 i z 3 40 ht hi hz hz1 hz2 hzc (by decide) (.slice fa fn fc) css.length (css.flatMap fun cs => cs) h3 hown ⟨w7.heap.size, 0, none⟩ 1 1 [.int .i64 kd, .slice ya no yc, .int .i64 tx] h4 rfl (World.news_of_block (cs := #[.int .i64 kd, .slice ya no yc, .int .i64 tx]) (t := 49) (fr := (0, 0)) (knew w7 _)) (qh2 _ _ _ _ _ _ (List.mem_singleton.2 rfl)) (by decide) (by unfold maxLen; omega) (by omega) (by rw [World.size_alloc]; omega) (w7.heap.size + 1) (World.size_alloc _ _) ?_
 intro g cap w' q1 q2 q3 q4
 refine h g _ cap w' ?_ q2 q3
 unfold OwnC OwnK
 rw [List.length_append, List.flatMap_append]
 exact q1
theorem qj4 {W : World} {b off k c : Nat} {a : Option Addr} {ss : List St} (h0 : 0 < ss.length) (ha : a = some ⟨b, off, none⟩) (hb : b < W.heap.size) (h : RowS (W.putObj b (.deferred none)) (.slice a k c) ss) : False := by
 obtain ⟨b', off', e, hb', hel⟩ := h.elem h0
 rw [ha] at e
 injection e with e
 injection e with e1 e2 _
 subst e1; subst e2
 obtain ⟨x0, x3, _, hc⟩ := hel 0 h0
 have h1 : (W.putObj b (.deferred none)).heap[b]? = some (.deferred none) := World.putObj_heap_same hb
 have h2 := (hc _ (qL0)).1
 simp only [World.cell?, h1] at h2
 cases h2
theorem qfH {W : World} {D : Nat} {x : Option (List Deferred)} {o' : Obj} {p : Addr} {u : Value} (hD : W.heap[D]? = some (.deferred x)) (h : W.cell? p = some u) : (W.putObj D o').cell? p = some u := by
 by_cases e : p.block = D
 ·exfalso
  subst e
  simp only [World.cell?, hD] at h
  cases h
 ·rw [World.cell?_of_block (w := W) (w' := W.putObj D o') (a := p) (World.putObj_heap_other (fun h => e h))]
  exact h
theorem qj1 {W : World} {D : Nat} {x : Option (List Deferred)} {o' : Obj} {v : Value} {css : List (List Value)} (hD : W.heap[D]? = some (.deferred x)) (h : SlK W v css) : SlK (W.putObj D o') v css := by
 obtain ⟨a, c, e, h1, h2, h3⟩ := h
 refine ⟨a, c, e, h1, h2, ?_⟩
 rcases h3 with h3 | ⟨b, off, ea, hb, hc⟩
 ·exact .inl h3
 ·exact .inr ⟨b, off, ea, Nat.lt_of_lt_of_le hb (grownBy_putObj' W D o').size, fun j u hj => qfH hD (hc j u hj)⟩
theorem qiR {W : World} {D : Nat} {x : Option (List Deferred)} {o' : Obj} {v : Value} {xs : List Value} (hD : W.heap[D]? = some (.deferred x)) (h : SlAt W v xs) : SlAt (W.putObj D o') v xs := by
 obtain ⟨a, c, e, h1, h2, h3⟩ := h
 refine ⟨a, c, e, h1, h2, ?_⟩
 rcases h3 with h3 | ⟨b, off, ea, hb, hc⟩
 ·exact .inl h3
 ·exact .inr ⟨b, off, ea, Nat.lt_of_lt_of_le hb (grownBy_putObj' W D o').size, fun j hj => qfH hD (hc j hj)⟩
theorem qku {W : World} {D : Nat} {x : Option (List Deferred)} {o' : Obj} {css : List (List Value)} {fs : List Fl} (hD : W.heap[D]? = some (.deferred x)) (h : Fls' W css fs) : Fls' (W.putObj D o') css fs := ⟨h.1, fun i a b => by
 obtain ⟨vo, e, h1⟩ := h.2 i a b
 exact ⟨vo, e, nmAt_sl.2 (qiR hD (nmAt_sl.1 h1))⟩⟩
def ClZ (n0 n1 : Nat) (W3 : World) (B : Nat) (fs : List Fl) (ga : Option Addr) (gn gc : Nat) (css : List (List Value)) (o : Nm) (n : Nat) (W : World) (e : Ending) (w7 : World) : Prop :=
 ∃ a c, e = .returned (.slice a n c) ∧ OwnG 9 strV w7 n0 (.slice a n c) o ∧ w7.heap[B]? = some (.cells #[.slice ga gn gc] 28) ∧ OwnC 3 49 w7 n0 (.slice ga gn gc) css ∧ FrFls w7 n0 css fs ∧ KpZ n0 n1 W3 w7 ∧ Below W.heap.size W w7
theorem qlt {n0 n1 : Nat} {W3 W : World} {B : Nat} {fs : List Fl} {ga : Option Addr} {gn gc : Nat} {css : List (List Value)} {v : Value} {o : Nm} {n : Nat} (h0 : n0 ≤ W.heap.size) (hn : o.length = n) (hx : W.heap[B]? = some (.cells #[.slice ga gn gc] 28)) (hown : OwnC 3 49 W n0 (.slice ga gn gc) css) (hfr : FrFls W n0 css fs) (hg : KpZ n0 n1 W3 W) (hO : NmAt W v o) (hko : NmOK o) :
 Calls Tryz.prog 22 #[v] W (ClZ n0 n1 W3 B fs ga gn gc css o n W) := by
 refine (qbr v o W hO.1 hO.2 (by have := hko.1; omega)).mono ?_
 rintro e w7 ⟨v7, rfl, ho7, hb7⟩
 obtain ⟨a7, c7, rfl⟩ := ho7.shape
 subst hn
 exact ⟨a7, c7, rfl, ho7.weaken h0, (hb7.block _ (qaa hx)).trans hx, OwnK.below hown hb7, ⟨hfr.1, fun i a b => (hfr.2 i a b).below hb7⟩, hg.below hb7, hb7⟩
end Go.Proofs.YtnpnfajgphpabaaGreat
namespace Go.Proofs.YtnpnfajgphpabaaGreat
set_option linter.unusedVariables false
set_option linter.unusedSimpArgs false
set_option maxRecDepth 100000
set_option maxHeartbeats 16000000
open Go.RowKit Go.Shelf
def ZnPost (w : World) (fs0 : List Fl) (e : Ending) (w' : World) : Prop := ∃ v css fs, e = .returned v ∧ SlK w' v css ∧ Fls' w' css fs ∧ fs.Perm fs0 ∧ (fs.Pairwise fun a b => qaj a b ≤ 0) ∧ Below w.heap.size w w'
def fsOf (s : St) (ks : List Int) : List Fl := ks.map fun k => ⟨k, s.owner, s.ty⟩
theorem qdp (s : St) (ks : List Int) (k : Int) : fsOf s (ks ++ [k]) = fsOf s ks ++ [⟨k, s.owner, s.ty⟩] := by unfold fsOf; rw [List.map_append]; rfl
theorem qek {β : Type} (ss : List St) (f : St → List β) : (List.finRange ss.length).flatMap (fun x => f ss[x]) = ss.flatMap f := by
 have h : (List.finRange ss.length).map (fun x => ss[x]) = ss := by
  apply List.ext_getElem
  ·simp
  ·intro i h1 h2
   simp
 have h2 := congrArg (List.flatMap f) h
 rw [List.flatMap_map] at h2
 exact h2
theorem qbL {α β : Type} (f : α → List β) (h : ∀ a, (f a).length ≤ 6) : ∀ l : List α, (l.flatMap f).length ≤ l.length * 6
 | [] => by simp
 | y :: r => by
  rw [List.flatMap_cons, List.length_append, List.length_cons]
  have := qbL f h r
  have := h y
  omega
section
attribute [local go_sem] Oper.semAt_some
theorem qeB {w : World} {za : Option Addr} {zn zc : Nat} {v1 : Option Addr} {m c : Nat} {o : Nm} {rs : List Rc} (hZ : ZonS w za zn zc v1 m c o rs) (hcan : canonM rs = rs) :
 Calls Tryz.prog 7 #[.agg #[.slice za zn zc, .slice v1 m c]] w (ZnPost w (allF o rs)) := by
 obtain ⟨ss, hss⟩ : ∃ ss, setsM rs = ss := ⟨_, rfl⟩
 have hzk : NmOK o := hZ.2.1
 have HAT := qH0 (fun W (hb : Below w.heap.size w W) => qfv (hZ.below hb))
 have HNV := qH0 (fun W (hb : Below w.heap.size w W) => (by
  have := qgg hb hZ
  unfold NvPost at this
  rw [hcan, hss] at this
  exact this : Calls Tryz.prog 19 #[.agg #[.slice za zn zc, .slice v1 m c]] W (fun e w' => ∃ sa sn sc va vn vc ca cn cc, e = .returned (.agg #[.slice sa sn sc, .slice za zn zc, .slice va vn vc, .slice ca cn cc]) ∧ (∀ W', Below w.heap.size w W' → FarKeep W.heap.size w' W' → ViewAt W' sa sn sc za zn zc va vn vc (.slice ca cn cc) o (cutsM rs) ss (qaB o rs ss)) ∧ Below W.heap.size W w')))
 have HALL := qH0 (show allF o rs = at0M o rs ++ ss.flatMap fun s => fsOf s (kindsM o rs ss s) from by unfold allF flawsM fsOf; rw [hss])
 have HOKL := qH0 (show ∀ f ∈ allF o rs, NmOK f.owner from fun f hf => by
  unfold allF flawsM at hf
  rcases List.mem_append.1 hf with h | h
  ·rw [(qbE o rs).2.2.2 f h]; exact hzk
  ·obtain ⟨s, hs, h⟩ := List.mem_flatMap.1 h
   obtain ⟨k, _, rfl⟩ := List.mem_map.1 h
   exact (qcg hZ.2.2.2.1 (by rw [hcan]; exact hs)).1)
 have HSL := qH0 (show ss.length ≤ 1048576 by
  have h1 := qem _ rs (qN0)
  obtain ⟨_, _, ⟨css, ⟨_, _, e, _⟩, hR⟩, _, hm⟩ := hZ
  injection e with _ e _
  have h2 := hR.1
  rw [hss] at h1; omega)
 have HKF := qH0 (fun s => qfX o (whereM o rs s.owner) (otherM ss s) (coverM (qaB o rs ss) s.owner) s)
 have HA2 := qH0 (qbE o rs).2.2.1
 generalize allF o rs = all at *
 clear hZ hzk
 obtain ⟨W0, hW0⟩ : ∃ W0, w.alloc (.cells #[.slice za zn zc, .slice v1 m c] 31) = W0 := ⟨_, rfl⟩
 have hB0 : Below w.heap.size w W0 := by rw [← hW0]; exact (Below.refl w.heap.size w).alloc (qN0) _
 have x0 : W0.heap[w.heap.size]? = some (.cells #[.slice za zn zc, .slice v1 m c] 31) := by rw [← hW0]; exact knew w _
 have y0 := kcell x0 0 (.slice za zn zc) rfl; have y1 := kcell x0 1 (.slice v1 m c) rfl
 have hc := HAT.out W0 hB0
 have HB0 := qH0 hB0; have X0 := qH0 x0
 have HP0 := qH0 (show 0 < W0.heap.size from Nat.lt_of_le_of_lt (Nat.zero_le _) (qaa x0))
 clear x0 hB0 HAT
 refine (callsIn_wide (n := 8)).1 ?_
 refine callsIn_of_wp_marks Tryz.func7 rfl trivial ?_ rfl
 simp only [Tryz.ntmps7, List.size_toArray, List.length_cons, List.length_nil, Nat.reduceAdd, Nat.reduceSub, Array.replicate_succ, Array.replicate_zero, List.push_toArray, List.append_toArray, List.nil_append, List.cons_append]
 refine wpIn_wide.2 ?_
 go_wp2_with fail
 clear hW0
 refine hc.mono ?_
 rintro e w1 ⟨ga, gn, gc, css0, rfl, ho1, hf1, hb1⟩
 obtain ⟨W1, hW1⟩ : ∃ W1, w1.alloc (.cells #[.slice ga gn gc] 28) = W1 := ⟨_, rfl⟩
 have hbA : Below w1.heap.size w1 W1 := by rw [← hW1]; exact (Below.refl w1.heap.size w1).alloc (qN0) _
 have hs1 : W1.heap.size = w1.heap.size + 1 := by rw [← hW1, World.size_alloc]
 have hx1 : W1.heap[w1.heap.size]? = some (.cells #[.slice ga gn gc] 28) := by rw [← hW1]; exact knew w1 _
 have HO1 := qH0 (OwnK.below ho1 hbA)
 have HF1 := qH0 (show FrFls W1 W0.heap.size css0 (at0M o rs) from ⟨hf1.1, fun i a b => (hf1.2 i a b).below hbA⟩)
 have HG1 := qH0 (fun g (e : (Value.slice ga gn gc).ownBlock = some g) => (show W0.heap.size ≤ g ∧ g < W1.heap.size from ⟨OwnK.base_le ho1 g e, by have := OwnK.lt ho1 g e; omega⟩))
 have HB1 := qH0 (HB0.out.trans ((qB0 hb1 hbA).mono HB0.out.size))
 have hb01 : Below W0.heap.size W0 W1 := qB0 hb1 hbA
 have HB01 := qH0 hb01
 have x01 := (hb01.block _ (qaa X0.out)).trans X0.out
 have y0' := kcell x01 0 (.slice za zn zc) rfl; have y1' := kcell x01 1 (.slice v1 m c) rfl
 have hc2 := HNV.out W1 HB1.out
 have HX1 := qH0 hx1; have HS1 := qH0 hs1
 have HL1 := qH0 hb1.size
 clear hc y0 y1 ho1 hf1 hb1 hbA hs1 hx1 hb01 x01 HNV X0
 go_wp2_with fail
 clear hW1
 refine hc2.mono ?_
 rintro e w2 ⟨sa, sn, sc, va, vn, vc, ca, cn, cc, rfl, hv2, hb2⟩
 obtain ⟨W2, hW2⟩ : ∃ W2, w2.alloc (.cells #[.slice sa sn sc, .slice za zn zc, .slice va vn vc, .slice ca cn cc] 60) = W2 := ⟨_, rfl⟩
 have hbB : Below w2.heap.size w2 W2 := by rw [← hW2]; exact (Below.refl w2.heap.size w2).alloc (qN0) _
 have hs2 : W2.heap.size = w2.heap.size + 1 := by rw [← hW2, World.size_alloc]
 have hx2 : W2.heap[w2.heap.size]? = some (.cells #[.slice sa sn sc, .slice za zn zc, .slice va vn vc, .slice ca cn cc] 60) := by rw [← hW2]; exact knew w2 _
 have z0 := kcell hx2 0 (.slice sa sn sc) rfl
 have hb12 : Below W1.heap.size W1 W2 := qB0 hb2 hbB
 have HB12 := qH0 hb12; have HV2 := qH0 hv2; have HS2 := qH0 hs2; have HX2 := qH0 hx2
 have HW2 := qH0 (fun g (h : g < w2.heap.size) => hbB.block g h)
 have HL2 := qH0 hb2.size
 clear hc2 y0' y1' hv2 hb2 hbB hs2 hx2 hb12
 go_wp2_with fail
 clear hW2
 refine (qc2 _ _ rfl).mono ?_
 rintro e w' ⟨rfl, rfl⟩
 clear z0
 obtain ⟨W3, hW3⟩ : ∃ W3, W2.alloc (.cells #[.slice sa sn sc] 58) = W3 := ⟨_, rfl⟩
 have hb3 : Below W2.heap.size W2 W3 := by rw [← hW3]; exact (Below.refl W2.heap.size W2).alloc (qN0) _
 have hs3 : W3.heap.size = W2.heap.size + 1 := by rw [← hW3, World.size_alloc]
 have hxe : W3.cell? ⟨W2.heap.size, 0, none⟩ = some (.slice sa sn sc) := by rw [← hW3]; exact kcell (knew W2 _) 0 _ rfl
 have hn01 : W0.heap.size ≤ W1.heap.size := HB01.out.size
 have HKV : Hid (∀ W', KpZ W0.heap.size W1.heap.size W3 W' → Below w.heap.size w W' ∧ ViewAt W' sa sn sc za zn zc va vn vc (.slice ca cn cc) o (cutsM rs) ss (qaB o rs ss) ∧ W'.heap[w2.heap.size]? = some (.cells #[.slice sa sn sc, .slice za zn zc, .slice va vn vc, .slice ca cn cc] 60)) := qH0 (fun W' hk => by
  have hb13 : Below w.heap.size w W3 := HB1.out.trans ((qB0 HB12.out hb3).mono HB1.out.size)
  have hbw : Below w.heap.size w W' := hk.to hb13 HB0.out.size (qN0)
  have h3 : ∀ g, g < W2.heap.size → W3.heap[g]? = W2.heap[g]? := fun g h => hb3.block g h
  refine ⟨hbw, HV2.out W' hbw (fun g q1 q2 => ?_), ?_⟩
  ·exact (hk.2.2.2.2 g (by have := HS2.out; omega) (.inr q1)).trans ((h3 g (by have := HS2.out; omega)).trans (HW2.out g q2))
  ·exact (hk.2.2.2.2 _ (by have := HS2.out; omega) (.inr HL2.out)).trans ((h3 _ (by have := HS2.out; omega)).trans HX2.out))
 have hkr := KpZ.refl W0.heap.size W1.heap.size W3
 obtain ⟨-, hview, -⟩ := HKV.out W3 hkr
 obtain ⟨b, off, G, ha, hbl, hn, hG3, -⟩ := hview.sets.vals
 subst hn
 obtain ⟨b, off, ha, hbl, hG3, hbo⟩ : ∃ b2 off2, (ss.length = 0 ∨ sa = some ⟨b2, off2, none⟩) ∧ b2 < W3.heap.size ∧ (∀ W', Below W3.heap.size W3 W' → EAt W' b2 off2 G) ∧ (b2 < W0.heap.size ∨ W1.heap.size ≤ b2) := by
  by_cases h0 : 0 < ss.length
  ·have hlt := World.block_lt_of_cell? W3 _ ((hG3 W3 (qL0)) ⟨0, h0⟩).1
   refine ⟨b, off, ha, hlt, hG3, ?_⟩
   by_cases hp : b < W0.heap.size ∨ W1.heap.size ≤ b
   ·exact hp
   ·exfalso
    have hk : KpZ W0.heap.size W1.heap.size W3 (W3.putObj b (.deferred none)) := hkr.grown (grownBy_putObj' W3 b _) (fun q e => by cases e; omega)
    exact qj4 h0 (by rcases ha with h | h; omega; exact h) hlt (HKV.out _ hk).2.1.sets
  ·exact ⟨0, 0, .inl (by omega), by omega, fun W' _ x => absurd x.isLt (by omega), .inl HP0.out⟩
 have HFZ0 : Hid (FZ W0.heap.size W1.heap.size W3 w1.heap.size (at0M o rs) W3) := qH0 (by
  have h13 : Below W1.heap.size W1 W3 := qB0 HB12.out hb3
  exact ⟨ga, gn, gc, css0, (h13.block _ (qaa HX1.out)).trans HX1.out, OwnK.below HO1.out h13, ⟨HF1.out.1, fun i a b => (HF1.out.2 i a b).below h13⟩, fun g e => ⟨(HG1.out g e).1, .inl (HG1.out g e).2⟩, hkr⟩)
 have HS3 := qH0 hs3; have HXE := qH0 hxe; have HAA := qH0 ha; have HBL := qH0 hbl; have HG3 := qH0 hG3; have HBO := qH0 hbo
 have HN01 := qH0 hn01
 have HBX : Hid (W0.heap.size ≤ w1.heap.size ∧ w1.heap.size < W1.heap.size) := qH0 ⟨HL1.out, by have := HS1.out; omega⟩
 have HN3 : Hid (W1.heap.size ≤ W3.heap.size) := qH0 (by have := HB12.out.size; omega)
 clear hb3 hs3 hxe ha hbl hG3 hbo hkr hview hn01 HB12 HV2 HX2 HW2 HO1 HF1 HG1
 go_wp2_with fail
 refine (wpIn_wide (n := 8)).1 ?_
 clear hW3
 refine wpIn_rangeFunc_ownH rfl (by omega) (gf := 49) (lb := #[.pointer (some ⟨W2.heap.size, 0, none⟩)]) rfl trivial (enters_of Tryz.func49 (by kernel_rfl) rfl)
  (qcW _ (by omega) W2.heap.size sa b off ss.length sc G HAA.out HSL.out W3 (by rw [HS3.out]; omega) HXE.out HG3.out) qdP
  (qci HBL.out) (qL0) (fun _ => rfl)
  (fun pre W => FZ W0.heap.size W1.heap.size W3 w1.heap.size (at0M o rs ++ pre.flatMap fun x => fsOf ss[x] (kindsM o rs ss ss[x])) W)
  (fun _ _ _ => False)
  (fz_own (f := fun pre => at0M o rs ++ pre.flatMap fun x : Fin ss.length => fsOf ss[x] (kindsM o rs ss ss[x])) (by have := HBX.out; have := HN3.out; omega) (by have := HN01.out; have := HN3.out; omega)) (fun _ => ownFrom_pure _ _)
  (by simpa using HFZ0.out)
  (fun x a' W => ∃ B6, a' = { tmps := #[.agg #[.slice za zn zc, .slice v1 m c], .pointer (some ⟨w.heap.size, 0, none⟩), .slice none 0 0, .pointer (some ⟨w1.heap.size, 0, none⟩), .pointer (some ⟨w2.heap.size, 0, none⟩), .pointer (some ⟨B6, 0, none⟩), undef, undef, .agg #[.slice za zn zc, .slice v1 m c], .slice ga gn gc, .agg #[.slice za zn zc, .slice v1 m c], .agg #[.slice sa ss.length sc, .slice za zn zc, .slice va vn vc, .slice ca cn cc], .pointer (some ⟨w2.heap.size, 0, none⟩), .slice sa ss.length sc, .func (.func 49) #[] #[.pointer (some ⟨W2.heap.size, 0, none⟩)], .agg #[.slice (G x).1.1 (G x).1.2.1 (G x).1.2.2, .int .i64 (G x).2.1, .int .u32 (G x).2.2.1, .slice (G x).2.2.2.1 (G x).2.2.2.2.1 (G x).2.2.2.2.2], undef, undef, undef, undef, undef, undef, undef, undef, undef, undef, undef, undef, undef, undef, undef, undef, undef, undef, undef, undef, undef, undef], defers := [] } ∧ W3.heap.size ≤ B6 ∧ W.heap[B6]? = some (.cells #[.slice (G x).1.1 (G x).1.2.1 (G x).1.2.2, .int .i64 (G x).2.1, .int .u32 (G x).2.2.1, .slice (G x).2.2.2.1 (G x).2.2.2.2.1 (G x).2.2.2.2.2] 67)) (fun x a' u W W' row ⟨B6, ha, hb, hx⟩ hg hr => ⟨B6, ha, hb, (hg.block B6 (qaa hx) (fun e => by obtain ⟨_, o, ho, hcell⟩ := hr B6 e.symm; rw [hx] at ho; cases ho; cases hcell)).trans hx⟩) ?assign ?body ?done ?stop
 case assign =>
  intro l pre x W K hi hK
  unfold eV
  gi_wp2
  have hbA : ∀ ob, Below W.heap.size W (W.alloc ob) := fun ob => (Below.refl _ W).alloc (qN0) ob
  have hsz : W3.heap.size ≤ W.heap.size := by obtain ⟨_, _, _, _, _, _, _, _, h⟩ := hi; exact h.2.2.2.1
  exact hK _ _ ((KeepsOthers.of_below (hbA _)).from _) (KeepB.alloc W _ (Nat.lt_of_lt_of_le HBL.out hsz)) (hi.below (hbA _)) ⟨W.heap.size, rfl, hsz, knew W _⟩
 case body =>
  rintro l pre x a' W hl2 hlp hfz ⟨B6, rfl, hB6, hx6⟩ hlt
  have hkp : KpZ W0.heap.size W1.heap.size W3 W := by obtain ⟨_, _, _, _, _, _, _, _, h⟩ := hfz; exact h
  obtain ⟨hww, hv, hx4⟩ := HKV.out W hkp
  have hEA : EAt W b off G := (HG3.out W3 (qL0)).keptB (hkp.2.2.2.2 b HBL.out HBO.out)
  have hs := hv.sets.at HAA.out hEA x
  have hok := hv.sok ss[x] (List.getElem_mem _)
  have hki := qia _ _ _ _ _ _ _ _ ss[x] hv hs hok
  rw [qez] at hki
  obtain ⟨hown, hty, -⟩ := hs.own
  have HKS6 := qH0 (HKF.out ss[x])
  obtain ⟨s, hsx⟩ : ∃ s, ss[x] = s := ⟨_, rfl⟩
  have HSX := qH0 hsx
  have HNR : Hid (∀ W', KpZ W0.heap.size W1.heap.size W3 W' → NmAt W' (.slice (G x).1.1 (G x).1.2.1 (G x).1.2.2) s.owner) := qH0 (fun W' hk => by
   rw [← hsx]
   exact ((HKV.out W' hk).2.1.sets.at HAA.out ((HG3.out W3 (qL0)).keptB (hk.2.2.2.2 b HBL.out HBO.out)) x).own.1)
  obtain ⟨ks, hks⟩ : ∃ ks, kindsM o rs ss s = ks := ⟨_, rfl⟩
  have HPRE := qH0 (show (at0M o rs ++ (pre ++ [x]).flatMap fun x : Fin ss.length => fsOf ss[x] (kindsM o rs ss ss[x])) = (at0M o rs ++ pre.flatMap fun x : Fin ss.length => fsOf ss[x] (kindsM o rs ss ss[x])) ++ fsOf s ks by
   rw [List.flatMap_append, ← List.append_assoc, ← hks, ← hsx]; simp)
  rw [hsx] at hki hown hty hok HKS6
  rw [show kindsW o (whereM o rs s.owner) (otherM ss s) (coverM (qaB o rs ss) s.owner) s = ks from hks] at hki HKS6
  have HLF : Hid ((at0M o rs ++ pre.flatMap fun x : Fin ss.length => fsOf ss[x] (kindsM o rs ss ss[x])).length ≤ 7000000) := qH0 (by
   rw [List.length_append]
   have h1 := HA2.out
   have h2 : (pre.flatMap fun x : Fin ss.length => fsOf ss[x] (kindsM o rs ss ss[x])).length ≤ pre.length * 6 := by
    exact qbL _ (fun y => by have := HKF.out ss[y]; unfold fsOf kindsM; rw [List.length_map]; exact this) pre
   have h3 := HSL.out
   omega)
  obtain ⟨fs, hfs⟩ : ∃ fs, (at0M o rs ++ pre.flatMap fun x : Fin ss.length => fsOf ss[x] (kindsM o rs ss ss[x])) = fs := ⟨_, rfl⟩
  rw [hfs] at hfz HPRE HLF
  have y0 := kcell hx4 0 (.slice sa ss.length sc) rfl; have y1 := kcell hx4 1 (.slice za zn zc) rfl; have y2 := kcell hx4 2 (.slice va vn vc) rfl; have y3 := kcell hx4 3 (.slice ca cn cc) rfl
  have u0 := kcell hx6 0 _ rfl; have u1 := kcell hx6 1 _ rfl; have u2 := kcell hx6 2 _ rfl; have u3 := kcell hx6 3 _ rfl
  have HX6 := qH0 hx6; have HFZ := qH0 hfz; have HOWN := qH0 hown; have HOK := qH0 hok; have HB6 := qH0 hB6
  obtain ⟨tx, htx⟩ : ∃ y, (G x).2.1 = y := ⟨_, rfl⟩
  have HTX := qH0 (show tx = s.ty from htx.symm.trans hty)
  rw [htx] at hki u1 HX6 ⊢
  generalize (G x).1.1 = p0 at *
  generalize (G x).1.2.1 = q0 at *
  generalize (G x).1.2.2 = k0 at *
  clear hfz hkp hww hv hx4 hEA hs hok hown hty hx6 hlp hlt hfs hks hsx hB6 htx
  gi_wp2_with (refine ⟨trivial, ?_⟩; gi_at_call 21; refine (CallsIn.inRound l (callsIn_wide.2 hki)).mono ?_; rintro e w9 ⟨v9, rfl, ho9, hb9⟩; obtain ⟨ka, kc, rfl⟩ := ho9.shape; generalize hkn : ks.length = kn at *; have HO9 := qH0 ho9; have HB9 := qH0 hb9; have HKN := qH0 hkn; clear ho9 hb9 hkn)
  have hf9 := HFZ.out.below HB9.out
  have hx9 := (HB9.out.block _ (qaa HX6.out)).trans HX6.out
  have hown9 : OwnG 3 iv w9 W3.heap.size (.slice ka kn kc) ks := HO9.out.weaken (by obtain ⟨_, _, _, _, _, _, _, _, h⟩ := HFZ.out; exact h.2.2.2.1)
  have HI0 := qH0 (show FZ W0.heap.size W1.heap.size W3 w1.heap.size (fs ++ fsOf s (ks.take 0)) w9 ∧ OwnG 3 iv w9 W3.heap.size (.slice ka kn kc) ks ∧ w9.heap[B6]? = some (.cells #[.slice p0 q0 k0, .int .i64 tx, .int .u32 (G x).2.2.1, .slice (G x).2.2.2.1 (G x).2.2.2.2.1 (G x).2.2.2.2.2] 67) ∧ KeepsOthers W w9 ∧ W.heap.size ≤ w9.heap.size ∧ KeepB b W w9 from ⟨by simpa [fsOf] using hf9, hown9, hx9, KeepsOthers.of_below HB9.out, HB9.out.size, HB9.out.block b (by obtain ⟨_, _, _, _, _, _, _, _, h⟩ := HFZ.out; exact Nat.lt_of_lt_of_le HBL.out h.2.2.2.1)⟩)
  clear hf9 hx9 hown9
  generalize (G x).2.2.1 = tl at *
  generalize (G x).2.2.2.1 = p3 at *
  generalize (G x).2.2.2.2.1 = q3 at *
  generalize (G x).2.2.2.2.2 = k3 at *
  clear hki
  have hkn6 : kn ≤ 6 := HKS6.out
  gi_wp2
  gi_loopw [20] (fun vi wr => ∃ k : Nat, vi = .int .i64 k ∧ k ≤ kn ∧ Hid (FZ W0.heap.size W1.heap.size W3 w1.heap.size (fs ++ fsOf s (ks.take k)) wr ∧ OwnG 3 iv wr W3.heap.size (.slice ka kn kc) ks ∧ wr.heap[B6]? = some (.cells #[.slice p0 q0 k0, .int .i64 tx, .int .u32 tl, .slice p3 q3 k3] 67) ∧ KeepsOthers W wr ∧ W.heap.size ≤ wr.heap.size ∧ KeepB b W wr)) (fun vi _ => kn - (intOf vi).toNat)
  case atStart => exact ⟨0, rfl, Nat.zero_le _, HI0⟩
  case round =>
   obtain ⟨k, rfl, hk, HI⟩ := hrel
   by_cases hlt : k < kn
   ·have hltz : (k : Int) < (kn : Int) := by omega
    have hk2 : k < ks.length := by have := HKN.out; omega
    obtain ⟨⟨fa, fn, fc, css, b1, b2, b3, b4, b5⟩, i2, i3, i4, i5, i6⟩ := HI.out
    obtain ⟨kb, koff, rfl, hkb, hcell⟩ := (SlAt.of_own i2).cell (qL0) k (by simpa using hk2)
    have htk : ks.take (k + 1) = ks.take k ++ [ks[k]] := List.take_succ_eq_append_getElem hk2
    rw [List.getElem_map] at hcell
    generalize ks[k] = kd at *
    have c0 := kcell b1 0 (.slice fa fn fc) rfl
    have s0 := kcell i3 0 (.slice p0 q0 k0) rfl; have s1 := kcell i3 1 (.int .i64 tx) rfl
    have HTK := qH0 htk
    clear htk hk2
    gi_wp2
    obtain ⟨no, hno⟩ : ∃ n, s.owner.length = n := ⟨_, rfl⟩
    have hd : Below wr.heap.size wr wr.drew := kdrew (Below.refl _ wr)
    have hW3 : W3.heap.size ≤ wr.heap.size := b5.2.2.2.1
    have HCL := qH0 (qlt (fs := fs ++ fsOf s (ks.take k)) (W := wr.drew) (v := .slice p0 q0 k0) (css := css) (Nat.le_trans (Nat.le_trans HN01.out HN3.out) hW3) hno b1 (OwnK.below b2 hd) ⟨b3.1, fun i a b => (b3.2 i a b).below hd⟩ (b5.below hd) ((HNR.out wr b5).below hd) HOK.out)
    have HLOC := qH0 b4
    have H6D : Hid (wr.drew.heap[B6]? = some (.cells #[.slice p0 q0 k0, .int .i64 tx, .int .u32 tl, .slice p3 q3 k3] 67)) := qH0 i3
    have HNB : Hid (B6 ≠ w1.heap.size) := qH0 (by have := HBX.out; have := HN3.out; have := HB6.out; omega)
    have HN03 := qH0 (Nat.le_trans HN01.out HN3.out)
    have HLC : Hid (css.length ≤ 10000000) := qH0 (by rw [b3.1, List.length_append]; unfold fsOf; rw [List.length_map, List.length_take]; have := HLF.out; have := HKS6.out; omega)
    have HW3 := qH0 hW3
    have HI2 := qH0 i2; have HI4 := qH0 i4; have HI5 := qH0 i5; have HI6 := qH0 i6; have HNO := qH0 hno
    have KA := qH0 (fun (X : World) (ob : Obj) (h : X.cell? ⟨B6, 0, none⟩ = some (.slice p0 q0 k0) ∧ X.cell? ⟨B6, 1, none⟩ = some (.int .i64 tx)) => (show (X.alloc ob).cell? ⟨B6, 0, none⟩ = some (.slice p0 q0 k0) ∧ (X.alloc ob).cell? ⟨B6, 1, none⟩ = some (.int .i64 tx) from ⟨(World.cell?_alloc_lt X ob ⟨B6, 0, none⟩ (World.block_lt_of_cell? X _ h.1)).trans h.1, (World.cell?_alloc_lt X ob ⟨B6, 1, none⟩ (World.block_lt_of_cell? X _ h.2)).trans h.2⟩))
    have hS0 : wr.drew.cell? ⟨B6, 0, none⟩ = some (.slice p0 q0 k0) ∧ wr.drew.cell? ⟨B6, 1, none⟩ = some (.int .i64 tx) := ⟨s0, s1⟩
    have HS0 := qH0 hS0
    have KS := qH0 (fun (X : World) (hb : Below wr.drew.heap.size wr.drew X) => (show X.cell? ⟨B6, 0, none⟩ = some (.slice p0 q0 k0) ∧ X.cell? ⟨B6, 1, none⟩ = some (.int .i64 tx) from ⟨(hb.cell (World.block_lt_of_cell? _ _ HS0.out.1)).trans HS0.out.1, (hb.cell (World.block_lt_of_cell? _ _ HS0.out.2)).trans HS0.out.2⟩))
    have KP := qH0 (fun (X : World) (u : Value) (h : X.cell? ⟨B6, 0, none⟩ = some (.slice p0 q0 k0) ∧ X.cell? ⟨B6, 1, none⟩ = some (.int .i64 tx)) => (show (X.setCell ⟨w1.heap.size, 0, none⟩ u).cell? ⟨B6, 0, none⟩ = some (.slice p0 q0 k0) ∧ (X.setCell ⟨w1.heap.size, 0, none⟩ u).cell? ⟨B6, 1, none⟩ = some (.int .i64 tx) from ⟨(World.cell?_setCell_far X ⟨w1.heap.size, 0, none⟩ ⟨B6, 0, none⟩ u (fun e => HNB.out e.symm)).trans h.1, (World.cell?_setCell_far X ⟨w1.heap.size, 0, none⟩ ⟨B6, 1, none⟩ u (fun e => HNB.out e.symm)).trans h.2⟩))
    have KB := qH0 (fun (X : World) (h : X.heap[B6]? = some (.cells #[.slice p0 q0 k0, .int .i64 tx, .int .u32 tl, .slice p3 q3 k3] 67)) => (show X.cell? ⟨B6, 0, none⟩ = some (.slice p0 q0 k0) ∧ X.cell? ⟨B6, 1, none⟩ = some (.int .i64 tx) from ⟨kcell h 0 _ rfl, kcell h 1 _ rfl⟩))
    have TL := qH0 (fun (w7 w8 : World) (ya : Option Addr) (yc g8 n8 c8 : Nat) (hb : Below wr.drew.heap.size wr.drew w7) (hoA : OwnC 3 49 (w7.alloc (.cells #[.int .i64 kd, .slice ya no yc, .int .i64 tx] 49)) W0.heap.size (.slice fa fn fc) css) (hg : (w7.alloc (.cells #[.int .i64 kd, .slice ya no yc, .int .i64 tx] 49)).grownBy w8 (Value.slice fa fn fc).ownBlock) (hx8 : w8.heap[w1.heap.size]? = some (.cells #[.slice fa fn fc] 28)) => (show OwnG 3 iv (w8.setCell ⟨w1.heap.size, 0, none⟩ (.slice (some ⟨g8, 0, none⟩) n8 c8)) W3.heap.size (.slice (some ⟨kb, koff, none⟩) kn kc) ks ∧ KeepsOthers W (w8.setCell ⟨w1.heap.size, 0, none⟩ (.slice (some ⟨g8, 0, none⟩) n8 c8)) ∧ W.heap.size ≤ (w8.setCell ⟨w1.heap.size, 0, none⟩ (.slice (some ⟨g8, 0, none⟩) n8 c8)).heap.size ∧ KeepB b W (w8.setCell ⟨w1.heap.size, 0, none⟩ (.slice (some ⟨g8, 0, none⟩) n8 c8)) from by
     have hbA := (Below.refl w7.heap.size w7).alloc (qN0) (.cells #[.int .i64 kd, .slice ya no yc, .int .i64 tx] 49)
     have hbl := HBL.out; have hbo := HBO.out
     have hbw : b < wr.heap.size := Nat.lt_of_lt_of_le hbl (Nat.le_trans HW3.out (qN0))
     have hb7 : b < w7.heap.size := Nat.lt_of_lt_of_le hbw hb.size
     refine ⟨OwnG.keptB ((((HI2.out.below (kdrew (Below.refl _ wr))).below hb).below hbA).kept_c hoA (by decide) hg) hx8 (by decide) 0 _, ((((HI4.out.trans (KeepsOthers.of_below (kdrew (Below.refl _ wr)))).trans (KeepsOthers.of_below hb)).trans (KeepsOthers.of_below hbA)).trans (KeepsOthers.grown_c hoA hg)).trans (KeepsOthers.setCell _ _ _), ?_, ?_⟩
     ·have h1 := hg.size; have h2 := hbA.size; have h3 := hb.size; have h4 := HI5.out; have h5 := (qaf w8 w1.heap.size 0 (.slice (some ⟨g8, 0, none⟩) n8 c8)).size
      exact Nat.le_trans h4 (Nat.le_trans h3 (Nat.le_trans h2 (Nat.le_trans h1 h5)))
     ·refine ((qaf w8 w1.heap.size 0 (.slice (some ⟨g8, 0, none⟩) n8 c8)).block b (Nat.lt_of_lt_of_le (Nat.lt_of_lt_of_le hb7 hbA.size) hg.size) (fun e => by injection e with e; have := HBX.out; omega)).trans ?_
      refine (hg.block b (Nat.lt_of_lt_of_le hb7 hbA.size) (fun e => by have := HLOC.out b e.symm; omega)).trans ?_
      exact (hbA.block b hb7).trans ((hb.block b hbw).trans HI6.out)))
    clear b1 b2 b3 b4 b5 i2 i3 i4 i5 i6 hno hd hW3 s0 s1 hcell
    refine qdW (S := fun X => X.cell? ⟨B6, 0, none⟩ = some (.slice p0 q0 k0) ∧ X.cell? ⟨B6, 1, none⟩ = some (.int .i64 tx)) (by kernel_rfl) (by rfl) hS0 (fun hHeld => ?_)
    refine wpAnyH_take (i := 1) (v := .int .i64 kd) rfl (by kernel_rfl) (by kernel_rfl) (by kernel_rfl) (fun _ _ _ h => h) (Or.inl ⟨by rfl, ?_⟩) (by assumption) ?_
    ·(intro wS hSw; (try dsimp only at hSw); go_simp)
    try simp only [Act.put, List.setIfInBounds_toArray, List.set_cons_zero, List.set_cons_succ]
    refine wpAnyH_take (i := 2) (v := .pointer (some ⟨B6, 0, none⟩)) rfl (by kernel_rfl) (by kernel_rfl) (by kernel_rfl) (fun _ _ _ h => h) (Or.inl ⟨by rfl, ?_⟩) (by assumption) ?_
    ·(intro wS hSw; (try dsimp only at hSw); go_simp)
    try simp only [Act.put, List.setIfInBounds_toArray, List.set_cons_zero, List.set_cons_succ]
    refine wpAnyH_take (i := 5) (v := .pointer (some ⟨B6, 1, none⟩)) rfl (by kernel_rfl) (by kernel_rfl) (by kernel_rfl) (fun _ _ _ h => h) (Or.inl ⟨by rfl, ?_⟩) (by assumption) ?_
    ·(intro wS hSw; (try dsimp only at hSw); go_simp)
    try simp only [Act.put, List.setIfInBounds_toArray, List.set_cons_zero, List.set_cons_succ]
    refine wpAnyH_take (i := 3) (v := .slice p0 q0 k0) rfl (by kernel_rfl) (by kernel_rfl) (by kernel_rfl) (fun _ _ _ h => h) (Or.inl ⟨by rfl, ?_⟩) (by assumption) ?_
    ·(intro wS hSw; (try dsimp only at hSw); go_simp)
    try simp only [Act.put, List.setIfInBounds_toArray, List.set_cons_zero, List.set_cons_succ]
    refine wpAnyH_take (i := 6) (v := .int .i64 tx) rfl (by kernel_rfl) (by kernel_rfl) (by kernel_rfl) (fun _ _ _ h => h) (Or.inl ⟨by rfl, ?_⟩) (by assumption) ?_
    ·(intro wS hSw; (try dsimp only at hSw); go_simp)
    try simp only [Act.put, List.setIfInBounds_toArray, List.set_cons_zero, List.set_cons_succ]
    refine wpAnyH_ready (rs := [0, 4]) (by kernel_rfl) (by simp) ?_
    refine AllReadyH.cons rfl (fun K hK => ?_) ?_
    ·go_simp
     refine hK.out _ _ ?_ (fun hHeld => ?_)
     ·(first | with_reducible assumption | exact KR.out | exact KA.out _ _ (by assumption) | exact KP.out _ _ (by assumption))
     clear hK K
     try simp only [Act.put, List.setIfInBounds_toArray, List.set_cons_zero, List.set_cons_succ]
     refine wpAnyH_ready (rs := [4]) (by kernel_rfl) (by simp) ?_
     refine AllReadyH.cons rfl (fun K hK => ?_) ?_
     ·go_simp
      refine (HCL.out).mono ?_
      rintro e w7 ⟨ya, yc, rfl, hn7, hx7, hown7, hfr7, hk7, hb7⟩
      have hS7 := KS.out _ hb7
      have c7 := kcell hx7 0 (.slice fa fn fc) rfl
      have hbA := (Below.refl w7.heap.size w7).alloc (qN0) (.cells #[.int .i64 kd, .slice ya no yc, .int .i64 tx] 49)
      have c7A := kcell ((hbA.block w1.heap.size (qaa hx7)).trans hx7) 0 (.slice fa fn fc) rfl
      have hSA := KA.out _ (.cells #[.int .i64 kd, .slice ya no yc, .int .i64 tx] 49) hS7
      have H7 := qH0 (And.intro hn7 (And.intro hx7 (And.intro hown7 (And.intro hfr7 (And.intro hk7 hb7)))))
      clear hn7 hx7 hown7 hfr7 hk7 hb7 hbA
      refine hK.out _ _ ?_ (fun hHeld => ?_)
      ·(first | with_reducible assumption | exact KR.out | exact KA.out _ _ (by assumption) | exact KP.out _ _ (by assumption))
      clear hK K
      try simp only [Act.put, List.setIfInBounds_toArray, List.set_cons_zero, List.set_cons_succ]
      refine wpAnyH_take (i := 7) (v := .agg #[.int .i64 kd, .slice ya no yc, .int .i64 tx]) rfl (by kernel_rfl) (by kernel_rfl) (by kernel_rfl) (fun _ _ _ h => h) (Or.inl ⟨by rfl, ?_⟩) (by assumption) ?_
      ·(intro wS hSw; (try dsimp only at hSw); go_simp)
      try simp only [Act.put, List.setIfInBounds_toArray, List.set_cons_zero, List.set_cons_succ]
      refine wpAnyH_ready (rs := [8]) (by kernel_rfl) (by simp) ?_
      refine AllReadyH.cons rfl (fun K hK => ?_) ?_
      ·go_simp
       refine hK.out _ _ ?_ (fun hHeld => ?_)
       ·(first | with_reducible assumption | exact KR.out | exact KA.out _ _ (by assumption) | exact KP.out _ _ (by assumption))
       clear hK K
       try simp only [Act.put, List.setIfInBounds_toArray, List.set_cons_zero, List.set_cons_succ]
       refine wpAnyH_ready (rs := [9]) (by kernel_rfl) (by simp) ?_
       refine AllReadyH.cons rfl (fun K hK => ?_) ?_
       ·obtain ⟨p1, p2, p3, p4, p5, p6⟩ := H7.out
        have hbA := (Below.refl w7.heap.size w7).alloc (qN0) (.cells #[.int .i64 kd, .slice ya no yc, .int .i64 tx] 49)
        have hownA := OwnK.below p3 hbA
        refine qbP w7 kd tx ya no yc W0.heap.size fa fn fc css hownA (Nat.le_trans HN03.out p5.2.2.2.1) HLC.out rfl (.tmp 24) (.tmp 32) rfl rfl rfl ?_
        intro g8 n8 c8 w8 ho8 hg8 hl8
        have hfin := FZ.step HBX.out p2 p3 p4 HLOC.out p5 p1 ho8 hg8 hl8
        have c8' := kcell hfin.2.1 0 (.slice fa fn fc) rfl
        have f8 := qag hfin.2.1 0
        have h6B := (p6.block B6 (qaa H6D.out)).trans H6D.out
        have h68 := hfin.2.2 B6 _ _ (by decide) HNB.out h6B
        have h6A := (hbA.block B6 (qaa h6B)).trans h6B
        have hS8 := KB.out _ ((hg8.block B6 (qaa h6A) (fun e => OwnK.ne_block hownA h6A (by decide) e)).trans h6A)
        have HFIN := qH0 (And.intro hfin.1 (And.intro h68 (TL.out w7 w8 ya yc g8 n8 c8 p6 hownA hg8 hfin.2.1)))
        clear p1 p2 p3 p4 p5 p6 hfin ho8 hl8 h6B h68 h6A hbA hownA
        refine hK.out _ _ ?_ (fun hHeld => ?_)
        ·(first | with_reducible assumption | exact KR.out | exact KA.out _ _ (by assumption) | exact KP.out _ _ (by assumption))
        clear hK K
        try simp only [Act.put, List.setIfInBounds_toArray, List.set_cons_zero, List.set_cons_succ]
        refine wpAnyH_ready (rs := [10]) (by kernel_rfl) (by simp) ?_
        refine AllReadyH.cons rfl (fun K hK => ?_) ?_
        ·go_simp
         refine hK.out _ _ ?_ (fun hHeld => ?_)
         ·(first | with_reducible assumption | exact KR.out | exact KA.out _ _ (by assumption) | exact KP.out _ _ (by assumption))
         clear hK K
         try simp only [Act.put, List.setIfInBounds_toArray, List.set_cons_zero, List.set_cons_succ]
         refine wpAnyH_done (by kernel_rfl) ?_ _
         simp only [OnlyN]
         gi_wp2
         go_roundw
         case measure => simp [intOf]; omega
         case rel => exact ⟨k + 1, by go_num, by omega, qH0 ⟨by rw [HTK.out, qdp, ← List.append_assoc, ← HTX.out]; exact HFIN.out.1, HFIN.out.2.2.1, HFIN.out.2.1, HFIN.out.2.2.2⟩⟩
        exact AllReadyH.nil
       exact AllReadyH.nil
      exact AllReadyH.nil
     exact AllReadyH.nil
    refine AllReadyH.cons rfl (fun K hK => ?_) ?_
    ·go_simp
     refine (HCL.out).mono ?_
     rintro e w7 ⟨ya, yc, rfl, hn7, hx7, hown7, hfr7, hk7, hb7⟩
     have hS7 := KS.out _ hb7
     have c7 := kcell hx7 0 (.slice fa fn fc) rfl
     have hbA := (Below.refl w7.heap.size w7).alloc (qN0) (.cells #[.int .i64 kd, .slice ya no yc, .int .i64 tx] 49)
     have c7A := kcell ((hbA.block w1.heap.size (qaa hx7)).trans hx7) 0 (.slice fa fn fc) rfl
     have hSA := KA.out _ (.cells #[.int .i64 kd, .slice ya no yc, .int .i64 tx] 49) hS7
     have H7 := qH0 (And.intro hn7 (And.intro hx7 (And.intro hown7 (And.intro hfr7 (And.intro hk7 hb7)))))
     clear hn7 hx7 hown7 hfr7 hk7 hb7 hbA
     refine hK.out _ _ ?_ (fun hHeld => ?_)
     ·(first | with_reducible assumption | exact KR.out | exact KA.out _ _ (by assumption) | exact KP.out _ _ (by assumption))
     clear hK K
     try simp only [Act.put, List.setIfInBounds_toArray, List.set_cons_zero, List.set_cons_succ]
     refine wpAnyH_take (i := 7) (v := .agg #[.int .i64 kd, .slice ya no yc, .int .i64 tx]) rfl (by kernel_rfl) (by kernel_rfl) (by kernel_rfl) (fun _ _ _ h => h) (Or.inl ⟨by rfl, ?_⟩) (by assumption) ?_
     ·(intro wS hSw; (try dsimp only at hSw); go_simp)
     try simp only [Act.put, List.setIfInBounds_toArray, List.set_cons_zero, List.set_cons_succ]
     refine wpAnyH_ready (rs := [0, 8]) (by kernel_rfl) (by simp) ?_
     refine AllReadyH.cons rfl (fun K hK => ?_) ?_
     ·go_simp
      refine hK.out _ _ ?_ (fun hHeld => ?_)
      ·(first | with_reducible assumption | exact KR.out | exact KA.out _ _ (by assumption) | exact KP.out _ _ (by assumption))
      clear hK K
      try simp only [Act.put, List.setIfInBounds_toArray, List.set_cons_zero, List.set_cons_succ]
      refine wpAnyH_ready (rs := [8]) (by kernel_rfl) (by simp) ?_
      refine AllReadyH.cons rfl (fun K hK => ?_) ?_
      ·go_simp
       refine hK.out _ _ ?_ (fun hHeld => ?_)
       ·(first | with_reducible assumption | exact KR.out | exact KA.out _ _ (by assumption) | exact KP.out _ _ (by assumption))
       clear hK K
       try simp only [Act.put, List.setIfInBounds_toArray, List.set_cons_zero, List.set_cons_succ]
       refine wpAnyH_ready (rs := [9]) (by kernel_rfl) (by simp) ?_
       refine AllReadyH.cons rfl (fun K hK => ?_) ?_
       ·obtain ⟨p1, p2, p3, p4, p5, p6⟩ := H7.out
        have hbA := (Below.refl w7.heap.size w7).alloc (qN0) (.cells #[.int .i64 kd, .slice ya no yc, .int .i64 tx] 49)
        have hownA := OwnK.below p3 hbA
        refine qbP w7 kd tx ya no yc W0.heap.size fa fn fc css hownA (Nat.le_trans HN03.out p5.2.2.2.1) HLC.out rfl (.tmp 24) (.tmp 32) rfl rfl rfl ?_
        intro g8 n8 c8 w8 ho8 hg8 hl8
        have hfin := FZ.step HBX.out p2 p3 p4 HLOC.out p5 p1 ho8 hg8 hl8
        have c8' := kcell hfin.2.1 0 (.slice fa fn fc) rfl
        have f8 := qag hfin.2.1 0
        have h6B := (p6.block B6 (qaa H6D.out)).trans H6D.out
        have h68 := hfin.2.2 B6 _ _ (by decide) HNB.out h6B
        have h6A := (hbA.block B6 (qaa h6B)).trans h6B
        have hS8 := KB.out _ ((hg8.block B6 (qaa h6A) (fun e => OwnK.ne_block hownA h6A (by decide) e)).trans h6A)
        have HFIN := qH0 (And.intro hfin.1 (And.intro h68 (TL.out w7 w8 ya yc g8 n8 c8 p6 hownA hg8 hfin.2.1)))
        clear p1 p2 p3 p4 p5 p6 hfin ho8 hl8 h6B h68 h6A hbA hownA
        refine hK.out _ _ ?_ (fun hHeld => ?_)
        ·(first | with_reducible assumption | exact KR.out | exact KA.out _ _ (by assumption) | exact KP.out _ _ (by assumption))
        clear hK K
        try simp only [Act.put, List.setIfInBounds_toArray, List.set_cons_zero, List.set_cons_succ]
        refine wpAnyH_ready (rs := [10]) (by kernel_rfl) (by simp) ?_
        refine AllReadyH.cons rfl (fun K hK => ?_) ?_
        ·go_simp
         refine hK.out _ _ ?_ (fun hHeld => ?_)
         ·(first | with_reducible assumption | exact KR.out | exact KA.out _ _ (by assumption) | exact KP.out _ _ (by assumption))
         clear hK K
         try simp only [Act.put, List.setIfInBounds_toArray, List.set_cons_zero, List.set_cons_succ]
         refine wpAnyH_done (by kernel_rfl) ?_ _
         simp only [OnlyN]
         gi_wp2
         go_roundw
         case measure => simp [intOf]; omega
         case rel => exact ⟨k + 1, by go_num, by omega, qH0 ⟨by rw [HTK.out, qdp, ← List.append_assoc, ← HTX.out]; exact HFIN.out.1, HFIN.out.2.2.1, HFIN.out.2.1, HFIN.out.2.2.2⟩⟩
        exact AllReadyH.nil
       exact AllReadyH.nil
      exact AllReadyH.nil
     refine AllReadyH.cons rfl (fun K hK => ?_) ?_
     ·go_simp
      refine hK.out _ _ ?_ (fun hHeld => ?_)
      ·(first | with_reducible assumption | exact KR.out | exact KA.out _ _ (by assumption) | exact KP.out _ _ (by assumption))
      clear hK K
      try simp only [Act.put, List.setIfInBounds_toArray, List.set_cons_zero, List.set_cons_succ]
      refine wpAnyH_ready (rs := [0]) (by kernel_rfl) (by simp) ?_
      refine AllReadyH.cons rfl (fun K hK => ?_) ?_
      ·go_simp
       refine hK.out _ _ ?_ (fun hHeld => ?_)
       ·(first | with_reducible assumption | exact KR.out | exact KA.out _ _ (by assumption) | exact KP.out _ _ (by assumption))
       clear hK K
       try simp only [Act.put, List.setIfInBounds_toArray, List.set_cons_zero, List.set_cons_succ]
       refine wpAnyH_ready (rs := [9]) (by kernel_rfl) (by simp) ?_
       refine AllReadyH.cons rfl (fun K hK => ?_) ?_
       ·obtain ⟨p1, p2, p3, p4, p5, p6⟩ := H7.out
        have hbA := (Below.refl w7.heap.size w7).alloc (qN0) (.cells #[.int .i64 kd, .slice ya no yc, .int .i64 tx] 49)
        have hownA := OwnK.below p3 hbA
        refine qbP w7 kd tx ya no yc W0.heap.size fa fn fc css hownA (Nat.le_trans HN03.out p5.2.2.2.1) HLC.out rfl (.tmp 24) (.tmp 32) rfl rfl rfl ?_
        intro g8 n8 c8 w8 ho8 hg8 hl8
        have hfin := FZ.step HBX.out p2 p3 p4 HLOC.out p5 p1 ho8 hg8 hl8
        have c8' := kcell hfin.2.1 0 (.slice fa fn fc) rfl
        have f8 := qag hfin.2.1 0
        have h6B := (p6.block B6 (qaa H6D.out)).trans H6D.out
        have h68 := hfin.2.2 B6 _ _ (by decide) HNB.out h6B
        have h6A := (hbA.block B6 (qaa h6B)).trans h6B
        have hS8 := KB.out _ ((hg8.block B6 (qaa h6A) (fun e => OwnK.ne_block hownA h6A (by decide) e)).trans h6A)
        have HFIN := qH0 (And.intro hfin.1 (And.intro h68 (TL.out w7 w8 ya yc g8 n8 c8 p6 hownA hg8 hfin.2.1)))
        clear p1 p2 p3 p4 p5 p6 hfin ho8 hl8 h6B h68 h6A hbA hownA
        refine hK.out _ _ ?_ (fun hHeld => ?_)
        ·(first | with_reducible assumption | exact KR.out | exact KA.out _ _ (by assumption) | exact KP.out _ _ (by assumption))
        clear hK K
        try simp only [Act.put, List.setIfInBounds_toArray, List.set_cons_zero, List.set_cons_succ]
        refine wpAnyH_ready (rs := [10]) (by kernel_rfl) (by simp) ?_
        refine AllReadyH.cons rfl (fun K hK => ?_) ?_
        ·go_simp
         refine hK.out _ _ ?_ (fun hHeld => ?_)
         ·(first | with_reducible assumption | exact KR.out | exact KA.out _ _ (by assumption) | exact KP.out _ _ (by assumption))
         clear hK K
         try simp only [Act.put, List.setIfInBounds_toArray, List.set_cons_zero, List.set_cons_succ]
         refine wpAnyH_done (by kernel_rfl) ?_ _
         simp only [OnlyN]
         gi_wp2
         go_roundw
         case measure => simp [intOf]; omega
         case rel => exact ⟨k + 1, by go_num, by omega, qH0 ⟨by rw [HTK.out, qdp, ← List.append_assoc, ← HTX.out]; exact HFIN.out.1, HFIN.out.2.2.1, HFIN.out.2.1, HFIN.out.2.2.2⟩⟩
        exact AllReadyH.nil
       exact AllReadyH.nil
      exact AllReadyH.nil
     exact AllReadyH.nil
    exact AllReadyH.nil
   ·obtain rfl : k = kn := by omega
    obtain ⟨i1, i2, i3, i4, i5, i6⟩ := HI.out
    rw [List.take_of_length_le (by have := HKN.out; omega)] at i1
    have HE := qH0 (And.intro i1 (And.intro i4 i6))
    clear i1 i2 i3 i4 i5 i6 HI
    gi_wp2
    refine ⟨HE.out.2.1.from _, HE.out.2.2, ?_⟩
    show FZ _ _ _ _ _ _
    rw [HPRE.out]
    exact HE.out.1
 case done =>
  rintro D xs2 W hD rfl hfz hK
  have hall : at0M o rs ++ (List.finRange ss.length).flatMap (fun x : Fin ss.length => fsOf ss[x] (kindsM o rs ss ss[x])) = all := by
   rw [HALL.out]
   congr 1
   exact qek ss (fun s => fsOf s (kindsM o rs ss s))
  rw [hall] at hfz
  obtain ⟨fa, fn, fc, css, b1, b2, b3, b4, b5⟩ := hfz
  have hD3 : W3.heap.size ≤ D := hD
  have hll : css.length ≤ 1000000000000 := by
   rw [b3.1, HALL.out, List.length_append]
   have h1 := HA2.out
   have h2 := qbL (fun s => fsOf s (kindsM o rs ss s)) (fun s => by have := HKF.out s; unfold fsOf kindsM; rw [List.length_map]; exact this) ss
   have h3 := HSL.out
   omega
  have hc := qh8 (.slice fa fn fc) css all W W0.heap.size (fun W' hg => ⟨b3.1, fun i q1 q2 => ((b3.2 i q1 q2).kept_c b2 (by decide) hg).flAt⟩) HOKL.out b2 hll
  have c0 := kcell b1 0 (.slice fa fn fc) rfl
  have HLC := qH0 b4
  have HB1' := qH0 b1; have HB2 := qH0 b2; have HB5 := qH0 b5; have HKD := qH0 hK; have HD3 := qH0 hD3
  clear b1 b2 b3 b4 b5 hK hD3 hll hall hD
  go_wp2_with fail
  refine hc.mono ?_
  rintro e w9 ⟨rfl, css', fs', h1, h2, h3, h4, h5, h6⟩
  have hx9 := (h6.block _ (qaa HB1'.out) (fun e => OwnK.ne_block HB2.out HB1'.out (by decide) e)).trans HB1'.out
  have hd9 : w9.heap[D]? = some (.deferred (some [])) := (h6.block D (qaa HKD.out) (fun e => by
   rcases HB2.out.2 with ⟨hn, _⟩ | ⟨g, cap, cur, hn, _, hh, _⟩
   ·rw [hn] at e; cases e
   ·rw [hn] at e
    simp only [Value.ownBlock] at e
    injection e with e
    subst e
    rw [HKD.out] at hh; cases hh)).trans HKD.out
  have c9 := kcell hx9 0 (.slice fa fn fc) rfl
  have hk9 : KpZ W0.heap.size W1.heap.size W3 w9 := HB5.out.grown h6 (fun g e => by
   have := HLC.out g e; exact this)
  have hw9 := (HKV.out w9 hk9).1
  have HFIN : Hid (ZnPost w all (.returned (.slice fa fn fc)) (w9.putObj D (.deferred none))) := qH0 ⟨_, css', fs', rfl, qj1 hd9 h1, qku hd9 h3, h4, h5, qal hw9 (by have := HD3.out; have := HB0.out.size; have := HN01.out; have := HN3.out; omega) (qN0)⟩
  have HD9 := qH0 hd9
  clear hc h1 h2 h3 h4 h5 h6 hx9 hd9 hk9 hw9 c0
  go_wp2
  refine ⟨by simp, .inl ⟨_, _, rfl, run_takeDeferred HD9.out, ?_⟩⟩
  refine ⟨_, results_tmp rfl _ _ _, ?_⟩
  exact HFIN.out
 case stop =>
  rintro D k pre W hD hp hF hK
  exact hF.elim
end
end Go.Proofs.YtnpnfajgphpabaaGreat
namespace Go.Proofs.YtnpnfajgphpabaaGreat
set_option linter.unusedVariables false
set_option linter.unusedSimpArgs false
set_option maxRecDepth 100000
set_option maxHeartbeats 16000000
open Go.RowKit Go.Shelf
def okR (r : Rc) : Bool := decide (checkR r = 0)
def goodRs (l : List Rc) : Bool := fewRs l && l.all okR
theorem qka {α : Type} {p : α → Bool} {l : List α} {k : Nat} (h : k < l.length) : (l.take (k + 1)).all p = ((l.take k).all p && p l[k]) := by
 rw [List.take_succ_eq_append_getElem h, List.all_append]; simp
def RowArg (W : World) (v : Value) (l : List Rc) : Prop := ∃ css, SlK W v css ∧ (css.length = l.length ∧ ∀ i (h1 : i < css.length) (h2 : i < l.length), RcArg W css[i] l[i])
theorem RowArg.row {W : World} {v : Value} {l : List Rc} (h : RowArg W v l) : RowC W v l := by
 obtain ⟨css, h1, h2, h3⟩ := h
 exact ⟨css, h1, h2, fun i a b => (h3 i a b).rcAt⟩
theorem RowArg.ok {W : World} {v : Value} {l : List Rc} (h : RowArg W v l) (hf : fewRs l = true) : l.length ≤ 60 ∧ ∀ r ∈ l, RcOK r := by
 obtain ⟨css, h1, h2, h3⟩ := h
 simp only [fewRs, Bool.and_eq_true, decide_eq_true_eq, List.all_eq_true] at hf
 refine ⟨hf.1, fun r hr => ?_⟩
 obtain ⟨i, hi, rfl⟩ := List.mem_iff_getElem.1 hr
 exact (h3 i (by omega) hi).ok (hf.2 _ hr)
theorem qip {r : Rc} (h : fewR r = true) : r.data.names.length ≤ 1048576 := by
 simp only [fewR, Bool.and_eq_true] at h
 have h2 := h.2
 simp only [fewD, Bool.and_eq_true, decide_eq_true_eq] at h2; omega
theorem qi8 (v : Value) (l : List Rc) (w0 w : World) (hL : RowArg w0 v l) (hwz : Below w0.heap.size w0 w) :
 Calls Tryz.prog 16 #[v] w fun e w' => e = .returned (.bool (goodRs l)) ∧ Below w.heap.size w w' := by
 have HOK := qH0 hL.ok
 obtain ⟨css, hA, hR⟩ := hL
 have hf := qjM v css l w0 w hA hR hwz
 have HR := qH0 hR; have HA := qH0 hA; have HWZ := qH0 hwz
 obtain ⟨a, c, rfl, hc1, -, -⟩ := id hA
 obtain ⟨n, hn⟩ : ∃ n, css.length = n := ⟨_, rfl⟩
 have HLN := qH0 hn
 have HDL := qH0 (show l.length = n by rw [← hR.1]; exact hn)
 rw [hn] at hf ⊢
 have HG := qH0 (show goodRs l = (fewRs l && l.all okR) from rfl)
 generalize goodRs l = res at *
 clear hA hR hwz hn hc1
 go_enter Tryz.func16, Tryz.ntmps16
 go_wp2_with fail
 refine hf.mono ?_
 rintro e w1 ⟨rfl, hb1⟩
 have HB1 := qH0 hb1
 clear hf hb1
 obtain ⟨fw, hfw⟩ : ∃ fw, fewRs l = fw := ⟨_, rfl⟩
 have HFW := qH0 hfw
 rw [hfw] at HG ⊢
 clear hfw
 cases fw
 ·have H1 : Hid (res = false) := qH0 (by rw [HG.out]; rfl)
  clear HG
  go_wp2
  go_ret
  exact ⟨by rw [H1.out]; rfl, HB1.out⟩
 obtain ⟨hl60, hok⟩ := HOK.out HFW.out
 have HOKL := qH0 hok
 have HFR := qH0 (show ∀ r ∈ l, r.data.names.length ≤ 1048576 from fun r hr => by
  have h := HFW.out
  simp only [fewRs, Bool.and_eq_true, decide_eq_true_eq, List.all_eq_true] at h
  exact qip (h.2 r hr))
 have hn60 : n ≤ 60 := by have := HDL.out; omega
 clear hok hl60 HOK
 go_wp2
 go_loopw [3] (fun vi wr => ∃ k : Nat, vi = .int .i64 k ∧ k ≤ n ∧ Hid ((l.take k).all okR = true) ∧ Hid (Below w.heap.size w wr)) (fun vi _ => n - (intOf vi).toNat)
 case atStart => exact ⟨0, rfl, Nat.zero_le _, qH0 (by simp), HB1⟩
 case round =>
  obtain ⟨k, rfl, hk, HO, HB⟩ := hrel
  by_cases hlt : k < n
  ·have hltz : (k : Int) < (n : Int) := by omega
   have hk1 : k < css.length := by have := HLN.out; omega
   have hk2 : k < l.length := by have := HDL.out; omega
   have hck : ∀ cs ∈ css, cs.length = 7 := fun cs hc => by
    obtain ⟨i, hi, rfl⟩ := List.mem_iff_getElem.1 hc
    exact ((HR.out.2 i hi (by have := HR.out.1; omega)).rcAt).len
   obtain ⟨b, off, rfl, hb, hel⟩ := HA.out.elem hck (by omega)
   have h0 := (HR.out.2 k hk1 hk2).rcAt
   have hokr := HOKL.out _ (List.getElem_mem hk2)
   have hnl := HFR.out _ (List.getElem_mem hk2)
   have hall := qka (p := okR) hk2
   obtain ⟨r, hr⟩ : ∃ r, l[k]'hk2 = r := ⟨_, rfl⟩
   have hrm : r ∈ l := by rw [← hr]; exact List.getElem_mem _
   rw [hr] at h0 hokr hnl hall
   rw [HO.out, Bool.true_and] at hall
   clear hr
   have hwr : Below w0.heap.size w0 wr := qB0 HWZ.out HB.out
   have hof := qhX w0 _ r wr h0 hwr hnl
   obtain ⟨⟨p0, q0, r0⟩, ⟨p3, q3, r3⟩, ⟨p4, q4, r4⟩, ⟨p5, q5, r5⟩, ⟨p6, q6, r6⟩, e0⟩ := h0.shape
   simp only at e0
   obtain ⟨c0, c1, c2, c3, c4, c5, c6⟩ := hel k hk1 _ _ _ _ _ _ _ e0 wr hwr
   rw [e0] at hof
   have HWR := qH0 hwr; have HOKR := qH0 hokr; have HALL := qH0 hall; have HRM := qH0 hrm
   clear h0 hnl e0 hel hk1 hk2 hck hwr hokr hall hrm
   go_wp2_with fail
   refine hof.mono ?_
   rintro e w2 ⟨cs2, rfl, hof2, hb2⟩
   have HB2 := qH0 (qB0 HB.out hb2)
   have hck := qg1 cs2 r w2 (hof2.rcAt (qB0 HWR.out hb2)) HOKR.out
   clear hb2 hof hof2 c0 c1 c2 c3 c4 c5 c6
   go_wp2_with fail
   refine hck.mono ?_
   rintro e w3 ⟨rfl, hb3⟩
   have HB3 := qH0 (qB0 HB2.out hb3)
   clear hb3 hck
   unfold okR at HALL
   generalize checkR r = cr at *
   by_cases hcr : cr = 0
   ·have hbb : (cr != 0) = false := by simpa using hcr
    have HA2 : Hid ((l.take (k + 1)).all okR = true) := qH0 (by unfold okR; rw [HALL.out]; simpa using hcr)
    clear hcr HALL
    go_wp2
    go_roundw
    case measure => simp [intOf]; omega
    case rel => exact ⟨k + 1, by go_num, by omega, HA2, HB3⟩
   ·have hbb : (cr != 0) = true := by simpa using hcr
    have H1 : Hid (res = false) := qH0 (by
     rw [HG.out, Bool.true_and]
     have h9 : (l.take (k + 1)).all okR = false := by unfold okR; rw [HALL.out]; simpa using hcr
     cases h8 : l.all okR
     ·rfl
     ·exfalso
      rw [List.all_eq_true] at h8
      have : (l.take (k + 1)).all okR = true := by rw [List.all_eq_true]; exact fun x hx => h8 x (List.mem_of_mem_take hx)
      rw [h9] at this; cases this)
    clear hcr HALL
    go_wp2
    go_ret
    exact ⟨by rw [H1.out]; rfl, HB3.out⟩
  ·obtain rfl : k = n := by omega
   have h := HO.out
   rw [List.take_of_length_le (by have := HDL.out; omega)] at h
   have H1 : Hid (res = true) := qH0 (by rw [HG.out, h]; rfl)
   clear h
   go_wp2
   go_ret
   exact ⟨by rw [H1.out]; rfl, HB.out⟩
theorem qii (vo vl : Value) (o : Nm) (l : List Rc) (w0 w : World) (hO : NmArg w0 vo o) (hL : RowArg w0 vl l) (hwz : Below w0.heap.size w0 w) :
 Calls Tryz.prog 5 #[vo, vl] w fun e w' => e = .returned (.bool (goodN o && goodRs l)) ∧ Below w.heap.size w w' := by
 have hc := qk2 vo o _ rfl w0 w hO (hO.1.below hwz)
 have HL := qH0 (fun (W : World) (hb : Below w.heap.size w W) => qi8 vl l w0 W hL (qB0 hwz hb))
 clear hO hL hwz
 generalize goodN o = g at *
 go_enter Tryz.func5, Tryz.ntmps5
 go_wp2_with fail
 refine hc.mono ?_
 rintro e w1 ⟨rfl, hb1⟩
 have HB1 := qH0 hb1
 clear hc hb1
 cases g
 ·go_wp2
  go_ret
  exact ⟨rfl, HB1.out⟩
 ·have hc := HL.out w1 HB1.out
  clear HL
  go_wp2_with fail
  refine hc.mono ?_
  rintro e w2 ⟨rfl, hb2⟩
  have HB2 := qH0 (qB0 HB1.out hb2)
  clear hc hb2
  go_wp2
  go_ret
  exact ⟨by rw [Bool.true_and]; rfl, HB2.out⟩
def allocs (w : World) (os : List Obj) : World := os.foldl World.alloc w
theorem qcn : ∀ (os : List Obj) (w : World), Below w.heap.size w (allocs w os)
 | [], w => qL0
 | x :: r, w => by
  have h1 := (Below.refl w.heap.size w).alloc (qN0) x
  exact h1.trans ((qcn r (w.alloc x)).mono (by simp))
theorem qbi : ∀ (os : List Obj) (w : World) (i : Nat) (h : i < os.length), (allocs w os).heap[w.heap.size + i]? = some os[i]
 | [], w, i, h => by simp at h
 | x :: r, w, 0, _ => ((qcn r (w.alloc x)).block w.heap.size (by simp)).trans (knew w x)
 | x :: r, w, i + 1, h => by
  have := qbi r (w.alloc x) i (by simpa using h)
  rw [World.size_alloc] at this
  rw [show w.heap.size + (i + 1) = w.heap.size + 1 + i by omega]
  exact this
theorem nm_lit' {W : World} {g : Nat} {l : List Value} {T : TypeId} {n : Nm} (h : W.heap[g]? = some (.cells l.toArray T)) (e : n.map strV = l) : NmAt W (.slice (some ⟨g, 0, none⟩) l.length l.length) n := nmAt_sl.2 (by rw [e]; exact qes h)
def kcO : Nm := [[111]]
def kcN : Nm := [[97], [111]]
def kcR1 : Rc := ⟨[[97], [111]], 0, ⟨5, [[[120]]], [], [], []⟩⟩
def kcR2 : Rc := ⟨[[97], [111]], 0, ⟨1, [], [], [], [1, 2, 3, 4]⟩⟩
def kcL : List Rc := [kcR1, kcR2]
def kcF : List Fl := [⟨1, [[111]], 6⟩, ⟨3, [[111]], 2⟩, ⟨5, [[97], [111]], 5⟩]
theorem qj2 : canonM kcL = [kcR2, kcR1] := by rfl
theorem qkV : canonM [kcR2, kcR1] = [kcR2, kcR1] := by rfl
theorem kc_all : allF kcO [kcR2, kcR1] = kcF := by rfl
theorem qkY : kcF.Pairwise fun a b => qaj a b < 0 := by
 unfold kcF
 simp only [List.pairwise_cons, List.mem_cons, List.not_mem_nil, or_false, forall_eq_or_imp, forall_eq, false_implies, implies_true, List.Pairwise.nil, and_true]
 refine ⟨⟨by decide, by decide⟩, by decide⟩
theorem kc_ok : ∀ r ∈ kcL, RcOK r := by
 intro r hr
 simp only [kcL, List.mem_cons, List.not_mem_nil, or_false] at hr
 rcases hr with rfl | rfl
 ·exact ⟨⟨by decide, by decide⟩, by decide, ⟨by decide, by decide⟩, by decide, (fun n h => by simp only [kcR1, List.mem_singleton] at h; subst h; exact ⟨by decide, by decide⟩), by decide, (fun n h => by cases h), ⟨by decide, (fun n h => by cases h)⟩, by decide⟩
 ·exact ⟨⟨by decide, by decide⟩, by decide, ⟨by decide, by decide⟩, by decide, (fun n h => by cases h), by decide, (fun n h => by cases h), ⟨by decide, (fun n h => by cases h)⟩, by decide⟩
theorem qd7 : ∀ (m l : List Fl), l.Perm m → (l.Pairwise fun a b => qaj a b ≤ 0) → (m.Pairwise fun a b => qaj a b < 0) → l = m
 | [], l, h, _, _ => List.Perm.eq_nil h
 | y :: m, [], h, _, _ => by have := h.length_eq; simp at this
 | y :: m, x :: l, h, hl, hm => by
  have hx : x ∈ y :: m := h.subset (by simp)
  have hy : y ∈ x :: l := h.symm.subset (by simp)
  have hl2 := List.pairwise_cons.1 hl
  have hm2 := List.pairwise_cons.1 hm
  have e : x = y := by
   rcases List.mem_cons.1 hx with e | hx
   ·exact e
   ·rcases List.mem_cons.1 hy with e | hy
    ·exact e.symm
    ·have h1 := hm2.1 x hx
     have h2 := hl2.1 y hy
     have h3 := cord_compareF.anti x y
     omega
  subst e
  rw [qd7 m l (List.Perm.cons_inv h) hl2.2 hm2.2]
theorem qks {W : World} {a : Option Addr} {n c : Nat} {css : List (List Value)} {fs : List Fl} (h : SlK W (.slice a n c) css) (hf : Fls' W css fs) (h0 : 0 < fs.length) : ∃ b off, a = some ⟨b, off, none⟩ ∧ b < W.heap.size ∧ n = fs.length ∧
 ∀ k (hk : k < fs.length), ∃ x : Option Addr × Nat × Nat, NmAt W (slV x) fs[k].owner ∧ ∀ W', Below W.heap.size W W' → W'.cell? ⟨b, off + k * 3, none⟩ = some (.int .i64 fs[k].kind) ∧ W'.cell? ⟨b, off + k * 3 + 1, none⟩ = some (slV x) ∧ W'.cell? ⟨b, off + k * 3 + 2, none⟩ = some (.int .i64 fs[k].ty) := by
 have h3 : ∀ cs ∈ css, cs.length = 3 := fun cs hc => by
  obtain ⟨i, hi, rfl⟩ := List.mem_iff_getElem.1 hc
  exact (hf.2 i hi (by have := hf.1; omega)).len
 obtain ⟨a', c', e, h1, h2, hh⟩ := h
 injection e with e1 e2 e3
 subst e1
 rcases hh with hh | ⟨b, off, ea, hb, hc⟩
 ·rw [hh] at hf; have := hf.1; simp at this; omega
 ·refine ⟨b, off, ea, hb, by rw [e2]; exact hf.1, fun k hk => ?_⟩
  have hk1 : k < css.length := by have := hf.1; omega
  obtain ⟨vo, ev, hn⟩ := hf.2 k hk1 hk
  obtain ⟨ax, cx, ex, -⟩ := nmAt_sl.1 hn
  have hcell : ∀ (t : Nat) (u : Value), t < 3 → css[k][t]? = some u → ∀ W', Below W.heap.size W W' → W'.cell? ⟨b, off + k * 3 + t, none⟩ = some u := fun t u ht hu W' hB => by
   have hz : (css.take k).flatten.length = k * 3 := by
    rw [qbd _ (fun cs hcs => h3 cs (List.mem_of_mem_take hcs)), List.length_take]; congr 1; omega
   have hsplit : css.flatten = (css.take k).flatten ++ (css[k] ++ (css.drop (k + 1)).flatten) := by
    rw [← List.flatten_cons, ← List.drop_eq_getElem_cons hk1, ← List.flatten_append, List.take_append_drop]
   have hj : css.flatten[k * 3 + t]? = some u := by
    rw [hsplit, List.getElem?_append_right (by omega), hz, Nat.add_sub_cancel_left, List.getElem?_append_left (by rw [h3 _ (List.getElem_mem hk1)]; exact ht)]
    exact hu
   have h5 := hc (k * 3 + t) u hj
   rw [← Nat.add_assoc] at h5
   exact (hB.cell (p := ⟨b, off + k * 3 + t, none⟩) hb).trans h5
  refine ⟨(ax, (fs[k].owner.map strV).length, cx), by rw [show slV (ax, (fs[k].owner.map strV).length, cx) = vo from ex.symm]; exact hn, fun W' hB => ⟨?_, ?_, ?_⟩⟩
  ·exact hcell 0 _ (by omega) (by rw [ev]; rfl) W' hB
  ·exact hcell 1 _ (by omega) (by rw [ev, ex]; rfl) W' hB
  ·exact hcell 2 _ (by omega) (by rw [ev]; rfl) W' hB
theorem qhd (w : World) :
 Calls Tryz.prog 4 #[] w fun e w' => e = .returned (.bool true) ∧ Below w.heap.size w w' := by
 go_enter Tryz.func4, Tryz.ntmps4
 go_wp2_with fail
 obtain ⟨n, hn⟩ : ∃ n, w.heap.size = n := ⟨_, rfl⟩
 obtain ⟨W, hW⟩ : ∃ W, allocs w [(.cells #[.string ⟨#[111]⟩] 9), (.cells #[.string ⟨#[97]⟩, .string ⟨#[111]⟩] 9), (.cells #[.string ⟨#[120]⟩] 9), (.cells #[.slice (some ⟨n + 1 + 1, 0, none⟩) 1 1] 23), (.cells #[.int .u8 1, .int .u8 2, .int .u8 3, .int .u8 4] 5), (.cells #[.slice (some ⟨n + 1, 0, none⟩) 2 2, .int .u32 0, .int .i64 5, .slice (some ⟨n + 1 + 1 + 1, 0, none⟩) 1 1, .slice none 0 0, .slice none 0 0, .slice none 0 0, .slice (some ⟨n + 1, 0, none⟩) 2 2, .int .u32 0, .int .i64 1, .slice none 0 0, .slice none 0 0, .slice none 0 0, .slice (some ⟨n + 1 + 1 + 1 + 1, 0, none⟩) 4 4] 47)] = W := ⟨_, rfl⟩
 have hB := qcn [(.cells #[.string ⟨#[111]⟩] 9), (.cells #[.string ⟨#[97]⟩, .string ⟨#[111]⟩] 9), (.cells #[.string ⟨#[120]⟩] 9), (.cells #[.slice (some ⟨n + 1 + 1, 0, none⟩) 1 1] 23), (.cells #[.int .u8 1, .int .u8 2, .int .u8 3, .int .u8 4] 5), (.cells #[.slice (some ⟨n + 1, 0, none⟩) 2 2, .int .u32 0, .int .i64 5, .slice (some ⟨n + 1 + 1 + 1, 0, none⟩) 1 1, .slice none 0 0, .slice none 0 0, .slice none 0 0, .slice (some ⟨n + 1, 0, none⟩) 2 2, .int .u32 0, .int .i64 1, .slice none 0 0, .slice none 0 0, .slice none 0 0, .slice (some ⟨n + 1 + 1 + 1 + 1, 0, none⟩) 4 4] 47)] w
 have k0 : W.heap[n]? = some (.cells #[.string ⟨#[111]⟩] 9) := by
  have h := qbi [(.cells #[.string ⟨#[111]⟩] 9), (.cells #[.string ⟨#[97]⟩, .string ⟨#[111]⟩] 9), (.cells #[.string ⟨#[120]⟩] 9), (.cells #[.slice (some ⟨n + 1 + 1, 0, none⟩) 1 1] 23), (.cells #[.int .u8 1, .int .u8 2, .int .u8 3, .int .u8 4] 5), (.cells #[.slice (some ⟨n + 1, 0, none⟩) 2 2, .int .u32 0, .int .i64 5, .slice (some ⟨n + 1 + 1 + 1, 0, none⟩) 1 1, .slice none 0 0, .slice none 0 0, .slice none 0 0, .slice (some ⟨n + 1, 0, none⟩) 2 2, .int .u32 0, .int .i64 1, .slice none 0 0, .slice none 0 0, .slice none 0 0, .slice (some ⟨n + 1 + 1 + 1 + 1, 0, none⟩) 4 4] 47)] w 0 (by simp)
  rw [hW, hn] at h; exact h
 have k1 : W.heap[n + 1]? = some (.cells #[.string ⟨#[97]⟩, .string ⟨#[111]⟩] 9) := by
  have h := qbi [(.cells #[.string ⟨#[111]⟩] 9), (.cells #[.string ⟨#[97]⟩, .string ⟨#[111]⟩] 9), (.cells #[.string ⟨#[120]⟩] 9), (.cells #[.slice (some ⟨n + 1 + 1, 0, none⟩) 1 1] 23), (.cells #[.int .u8 1, .int .u8 2, .int .u8 3, .int .u8 4] 5), (.cells #[.slice (some ⟨n + 1, 0, none⟩) 2 2, .int .u32 0, .int .i64 5, .slice (some ⟨n + 1 + 1 + 1, 0, none⟩) 1 1, .slice none 0 0, .slice none 0 0, .slice none 0 0, .slice (some ⟨n + 1, 0, none⟩) 2 2, .int .u32 0, .int .i64 1, .slice none 0 0, .slice none 0 0, .slice none 0 0, .slice (some ⟨n + 1 + 1 + 1 + 1, 0, none⟩) 4 4] 47)] w 1 (by simp)
  rw [hW, hn] at h; exact h
 have k2 : W.heap[n + 1 + 1]? = some (.cells #[.string ⟨#[120]⟩] 9) := by
  have h := qbi [(.cells #[.string ⟨#[111]⟩] 9), (.cells #[.string ⟨#[97]⟩, .string ⟨#[111]⟩] 9), (.cells #[.string ⟨#[120]⟩] 9), (.cells #[.slice (some ⟨n + 1 + 1, 0, none⟩) 1 1] 23), (.cells #[.int .u8 1, .int .u8 2, .int .u8 3, .int .u8 4] 5), (.cells #[.slice (some ⟨n + 1, 0, none⟩) 2 2, .int .u32 0, .int .i64 5, .slice (some ⟨n + 1 + 1 + 1, 0, none⟩) 1 1, .slice none 0 0, .slice none 0 0, .slice none 0 0, .slice (some ⟨n + 1, 0, none⟩) 2 2, .int .u32 0, .int .i64 1, .slice none 0 0, .slice none 0 0, .slice none 0 0, .slice (some ⟨n + 1 + 1 + 1 + 1, 0, none⟩) 4 4] 47)] w 2 (by simp)
  rw [hW, hn] at h; exact h
 have k3 : W.heap[n + 1 + 1 + 1]? = some (.cells #[.slice (some ⟨n + 1 + 1, 0, none⟩) 1 1] 23) := by
  have h := qbi [(.cells #[.string ⟨#[111]⟩] 9), (.cells #[.string ⟨#[97]⟩, .string ⟨#[111]⟩] 9), (.cells #[.string ⟨#[120]⟩] 9), (.cells #[.slice (some ⟨n + 1 + 1, 0, none⟩) 1 1] 23), (.cells #[.int .u8 1, .int .u8 2, .int .u8 3, .int .u8 4] 5), (.cells #[.slice (some ⟨n + 1, 0, none⟩) 2 2, .int .u32 0, .int .i64 5, .slice (some ⟨n + 1 + 1 + 1, 0, none⟩) 1 1, .slice none 0 0, .slice none 0 0, .slice none 0 0, .slice (some ⟨n + 1, 0, none⟩) 2 2, .int .u32 0, .int .i64 1, .slice none 0 0, .slice none 0 0, .slice none 0 0, .slice (some ⟨n + 1 + 1 + 1 + 1, 0, none⟩) 4 4] 47)] w 3 (by simp)
  rw [hW, hn] at h; exact h
 have k4 : W.heap[n + 1 + 1 + 1 + 1]? = some (.cells #[.int .u8 1, .int .u8 2, .int .u8 3, .int .u8 4] 5) := by
  have h := qbi [(.cells #[.string ⟨#[111]⟩] 9), (.cells #[.string ⟨#[97]⟩, .string ⟨#[111]⟩] 9), (.cells #[.string ⟨#[120]⟩] 9), (.cells #[.slice (some ⟨n + 1 + 1, 0, none⟩) 1 1] 23), (.cells #[.int .u8 1, .int .u8 2, .int .u8 3, .int .u8 4] 5), (.cells #[.slice (some ⟨n + 1, 0, none⟩) 2 2, .int .u32 0, .int .i64 5, .slice (some ⟨n + 1 + 1 + 1, 0, none⟩) 1 1, .slice none 0 0, .slice none 0 0, .slice none 0 0, .slice (some ⟨n + 1, 0, none⟩) 2 2, .int .u32 0, .int .i64 1, .slice none 0 0, .slice none 0 0, .slice none 0 0, .slice (some ⟨n + 1 + 1 + 1 + 1, 0, none⟩) 4 4] 47)] w 4 (by simp)
  rw [hW, hn] at h; exact h
 have k5 : W.heap[n + 1 + 1 + 1 + 1 + 1]? = some (.cells #[.slice (some ⟨n + 1, 0, none⟩) 2 2, .int .u32 0, .int .i64 5, .slice (some ⟨n + 1 + 1 + 1, 0, none⟩) 1 1, .slice none 0 0, .slice none 0 0, .slice none 0 0, .slice (some ⟨n + 1, 0, none⟩) 2 2, .int .u32 0, .int .i64 1, .slice none 0 0, .slice none 0 0, .slice none 0 0, .slice (some ⟨n + 1 + 1 + 1 + 1, 0, none⟩) 4 4] 47) := by
  have h := qbi [(.cells #[.string ⟨#[111]⟩] 9), (.cells #[.string ⟨#[97]⟩, .string ⟨#[111]⟩] 9), (.cells #[.string ⟨#[120]⟩] 9), (.cells #[.slice (some ⟨n + 1 + 1, 0, none⟩) 1 1] 23), (.cells #[.int .u8 1, .int .u8 2, .int .u8 3, .int .u8 4] 5), (.cells #[.slice (some ⟨n + 1, 0, none⟩) 2 2, .int .u32 0, .int .i64 5, .slice (some ⟨n + 1 + 1 + 1, 0, none⟩) 1 1, .slice none 0 0, .slice none 0 0, .slice none 0 0, .slice (some ⟨n + 1, 0, none⟩) 2 2, .int .u32 0, .int .i64 1, .slice none 0 0, .slice none 0 0, .slice none 0 0, .slice (some ⟨n + 1 + 1 + 1 + 1, 0, none⟩) 4 4] 47)] w 5 (by simp)
  rw [hW, hn] at h; exact h
 rw [hW] at hB
 simp only [allocs, List.foldl_cons, List.foldl_nil] at hW
 have hN0 : NmAt W (.slice (some ⟨n, 0, none⟩) 1 1) [[111]] := nm_lit' (l := [.string ⟨#[111]⟩]) k0 rfl
 have hN1 : NmAt W (.slice (some ⟨n + 1, 0, none⟩) 2 2) [[97], [111]] := nm_lit' (l := [.string ⟨#[97]⟩, .string ⟨#[111]⟩]) k1 rfl
 have hN2 : NmAt W (.slice (some ⟨n + 1 + 1, 0, none⟩) 1 1) [[120]] := nm_lit' (l := [.string ⟨#[120]⟩]) k2 rfl
 have hD4 : SlAt W (.slice (some ⟨n + 1 + 1 + 1 + 1, 0, none⟩) 4 4) ([1, 2, 3, 4].map bv) := qes (l := [.int .u8 1, .int .u8 2, .int .u8 3, .int .u8 4]) k4
 have hD2 : SlAt W (.slice (some ⟨n + 1 + 1 + 1, 0, none⟩) 1 1) [.slice (some ⟨n + 1 + 1, 0, none⟩) 1 1] := qes (l := [.slice (some ⟨n + 1 + 1, 0, none⟩) 1 1]) k3
 have q1 : RcAt W [.slice (some ⟨n + 1, 0, none⟩) 2 2, .int .u32 ((0 : Nat) : Int), .int .i64 5, .slice (some ⟨n + 1 + 1 + 1, 0, none⟩) 1 1, .slice none 0 0, .slice none 0 0, .slice none 0 0] kcR1 := ⟨_, _, _, _, _, rfl, hN1, _, _, _, _, rfl, ⟨_, hD2, rfl, fun i h1 => by
  match i, h1 with
  | 0, _ => exact hN2⟩, SlAt.nil _, nm_nil _, SlAt.nil _⟩
 have q2 : RcAt W [.slice (some ⟨n + 1, 0, none⟩) 2 2, .int .u32 ((0 : Nat) : Int), .int .i64 1, .slice none 0 0, .slice none 0 0, .slice none 0 0, .slice (some ⟨n + 1 + 1 + 1 + 1, 0, none⟩) 4 4] kcR2 := ⟨_, _, _, _, _, rfl, hN1, _, _, _, _, rfl, NmsAt.nil _, SlAt.nil _, nm_nil _, hD4⟩
 have hRC : RowC W (.slice (some ⟨n + 1 + 1 + 1 + 1 + 1, 0, none⟩) 2 2) kcL := ⟨_, qay (css := [[.slice (some ⟨n + 1, 0, none⟩) 2 2, .int .u32 0, .int .i64 5, .slice (some ⟨n + 1 + 1 + 1, 0, none⟩) 1 1, .slice none 0 0, .slice none 0 0, .slice none 0 0], [.slice (some ⟨n + 1, 0, none⟩) 2 2, .int .u32 0, .int .i64 1, .slice none 0 0, .slice none 0 0, .slice none 0 0, .slice (some ⟨n + 1 + 1 + 1 + 1, 0, none⟩) 4 4]]) k5, rfl, fun i h1 h2 => by
  match i, h1 with
  | 0, _ => exact q1
  | 1, _ => exact q2⟩
 have hc := qgz (.slice (some ⟨n, 0, none⟩) 1 1) (.slice (some ⟨n + 1 + 1 + 1 + 1 + 1, 0, none⟩) 2 2) kcO kcL hN0 ⟨by decide, by decide⟩ hRC kc_ok (by decide)
 rw [qj2] at hc
 rw [hn, hW]
 have HB := qH0 hB; have HN := qH0 hN1
 clear hB hN0 hN1 hN2 hD4 hD2 q1 q2 hRC k0 k1 k2 k3 k4 k5 hW
 refine hc.mono ?_
 rintro e w2 ⟨za, zn, zc, v1, m, c, rfl, hZ, hb2⟩
 have hA2 := (Below.refl w2.heap.size w2).alloc (qN0) (.cells #[.slice za zn zc, .slice v1 m c] 31)
 have hc3 := qeB (hZ.below hA2) qkV
 rw [kc_all] at hc3
 have HB2 := qH0 (HB.out.trans ((qB0 hb2 hA2).mono HB.out.size))
 have HN2 := qH0 ((HN.out.below hb2).below hA2)
 clear hc hZ hb2 hA2 HB HN
 go_wp2_with fail
 refine hc3.mono ?_
 rintro e w3 ⟨v, css, fs, rfl, hs3, hf3, hp3, ho3, hb3⟩
 obtain rfl := qd7 _ _ hp3 ho3 qkY
 obtain ⟨a3, c3, rfl⟩ : ∃ a c, v = .slice a 3 c := by
  obtain ⟨a, c, e, _⟩ := id hs3
  exact ⟨a, c, by rw [e, hf3.1]; rfl⟩
 obtain ⟨b, off, rfl, hbl, -, hel⟩ := qks hs3 hf3 (by decide)
 obtain ⟨x0, hn0, hc0⟩ := hel 0 (by decide)
 obtain ⟨x1, hn1, hc1⟩ := hel 1 (by decide)
 obtain ⟨x2, hn2, hc2⟩ := hel 2 (by decide)
 have HB3 := qH0 (qB0 HB2.out hb3)
 have hC := fun p : WIn (fun W => Below w3.heap.size w3 W) => hc0 p.w p.ok
 have hC1 := fun p : WIn (fun W => Below w3.heap.size w3 W) => hc1 p.w p.ok
 have hC2 := fun p : WIn (fun W => Below w3.heap.size w3 W) => hc2 p.w p.ok
 obtain ⟨z0, z0', z0''⟩ := x0; obtain ⟨z2, z2', z2''⟩ := x2
 have g0 := fun p => (hC p).1; have g1 := fun p => (hC p).2.1; have g2 := fun p => (hC p).2.2
 have j0 := fun p => (hC1 p).1; have j2 := fun p => (hC1 p).2.2
 have i0 := fun p => (hC2 p).1; have i1 := fun p => (hC2 p).2.1; have i2 := fun p => (hC2 p).2.2
 simp only [slV, kcF, List.getElem_cons_zero, List.getElem_cons_succ, Nat.zero_mul, Nat.add_zero, Nat.one_mul] at g0 g1 g2 j0 j2 i0 i1 i2
 have hq1 : ∀ p : WIn (fun W => Below w3.heap.size w3 W), Calls Tryz.prog 12 #[.slice z2 z2' z2'', .slice (some ⟨n + 1, 0, none⟩) 2 2] p.w fun e w' => e = .returned (.bool true) ∧ ∃ q : WIn (fun W => Below w3.heap.size w3 W), w' = q.w := fun p =>
  Calls.cls (C := fun W => Below w3.heap.size w3 W) ((qbW (.slice z2 z2' z2'') (.slice (some ⟨n + 1, 0, none⟩) 2 2) kcN kcN true (by decide) p.w (hn2.below p.ok) (HN2.out.below (hb3.trans (p.ok.mono hb3.size))) ⟨by decide, by decide⟩ ⟨by decide, by decide⟩).mono fun _ _ ⟨hq, hb⟩ => ⟨hq, p.ok.trans (hb.mono p.ok.size)⟩)
 have hq2 : ∀ p : WIn (fun W => Below w3.heap.size w3 W), Calls Tryz.prog 13 #[.int .i64 3] p.w fun e w' => e = .returned (.string ⟨#[110, 111, 110, 115]⟩) ∧ ∃ q : WIn (fun W => Below w3.heap.size w3 W), w' = q.w := fun p =>
  Calls.cls (C := fun W => Below w3.heap.size w3 W) ((qeU 3 p.w).mono fun _ _ ⟨hq, hb⟩ => ⟨hq.trans (by rfl), hb ▸ p.ok⟩)
 have hq3 : ∀ p : WIn (fun W => Below w3.heap.size w3 W), Calls Tryz.prog 13 #[.int .i64 0] p.w fun e w' => e = .returned (.string ⟨#[]⟩) ∧ ∃ q : WIn (fun W => Below w3.heap.size w3 W), w' = q.w := fun p =>
  Calls.cls (C := fun W => Below w3.heap.size w3 W) ((qeU 0 p.w).mono fun _ _ ⟨hq, hb⟩ => ⟨hq.trans (by rfl), hb ▸ p.ok⟩)
 have hq4 : ∀ p : WIn (fun W => Below w3.heap.size w3 W), Calls Tryz.prog 14 #[.agg #[.int .i64 1, .slice z0 z0' z0'', .int .i64 6], .agg #[.int .i64 5, .slice z2 z2' z2'', .int .i64 5]] p.w fun e w' => e = .returned (.int .i64 (-1)) ∧ ∃ q : WIn (fun W => Below w3.heap.size w3 W), w' = q.w := fun p =>
  Calls.cls (C := fun W => Below w3.heap.size w3 W) ((qdi [.int .i64 1, .slice z0 z0' z0'', .int .i64 6] [.int .i64 5, .slice z2 z2' z2'', .int .i64 5] ⟨1, kcO, 6⟩ ⟨5, kcN, 5⟩ p.w ⟨_, rfl, hn0.below p.ok⟩ ⟨_, rfl, hn2.below p.ok⟩ ⟨by decide, by decide⟩ ⟨by decide, by decide⟩).mono fun _ _ ⟨hq, hb⟩ => ⟨hq.trans (congrArg (fun z => Ending.returned (.int .i64 z)) (by decide : qaj ⟨1, kcO, 6⟩ ⟨5, kcN, 5⟩ = -1)), p.ok.trans (hb.mono p.ok.size)⟩)
 have hne : Nonempty (WIn (fun W => Below w3.heap.size w3 W)) := ⟨⟨w3, qL0⟩⟩
 have hcl : Below w3.heap.size w3 w3.drew := ⟨rfl, rfl, rfl, qN0, fun _ _ => rfl⟩
 clear hC hC1 hC2 hel hs3 hf3 hp3 ho3 hb3 hc0 hc1 hc2 hn0 hn1 hn2 hc3 HB2 HN2
 go_wp2_with fail
 refine qad (fun W => Below w3.heap.size w3 W) qae (by kernel_rfl) hcl ?_
 repeat (go_big_quiet_step (first | with_reducible exact hq1 _ | with_reducible exact hq2 _ | with_reducible exact hq3 _ | with_reducible exact hq4 _))
 refine wpQuiet_nil ?_
 rintro W9 ⟨p9, hp9⟩
 have hok := p9.ok
 rw [← hp9] at hok
 have HF := qH0 (qB0 HB3.out hok)
 clear hp9 p9 hok g0 g1 g2 j0 j2 i0 i1 i2 hq1 hq2 hq3 hq4 hne hcl
 go_wp2
 go_ret
 exact ⟨rfl, HF.out⟩
end Go.Proofs.YtnpnfajgphpabaaGreat
