/-
  A drawn region of reads and calls, over any class of worlds, inside a fence.
-/
import Derived.Test.YtckammgnmgkieaaGreatMQ19
import Derived.Sort.QuietTacIn
import Derived.Sort.BigQuietIn
import Derived.Test.YtckammgnmgkieaaGreatMQ10
import Derived.RangeFuncKeeps
import Derived.RangeFuncNested
namespace Go.Proofs.YtckammgnmgkieaaGreat
set_option maxRecDepth 20000
open Go.RowKit Go.Shelf

theorem wpIn_region_cls {F : Fence} {n : Nat} {P : Program} {id : Nat} {Q : Exit → Act → World → Prop} {a : Act} {w : World} {l : List Oper} (C : World → Prop) (hro : F.round = none) (hm : P.follows .mixedOrders = true) (hB : Region.lexB .any l.toArray = true) (hC : C w.drew)
    (h : wpQuietIn F n P l.toArray (fun w' => ∃ p : WIn C, w' = p.w) (fun a' => ∀ w', (∃ p : WIn C, w' = p.w) → Q .normal a' w') l a) : (Code.region id l.toArray true).wpIn F n P Q a w :=
  wpIn_region_quiet (C := fun w' => ∃ p : WIn C, w' = p.w) hro hm hB ⟨⟨w.drew, hC⟩, rfl⟩ (by simpa using h)
theorem CallsIn.cls {F : Fence} {r : Nat} {C : World → Prop} {P : Program} {f : FuncId} {args : Array Value} {w : World} {v : Value}
    (h : CallsIn F r P f args w fun e w' => e = .returned v ∧ C w') : CallsIn F r P f args w fun e w'' => e = .returned v ∧ ∃ q : WIn C, w'' = q.w :=
  h.mono fun _ w' ⟨he, hc⟩ => ⟨he, ⟨w', hc⟩, rfl⟩
end Go.Proofs.YtckammgnmgkieaaGreat

/-
  rec.runs as an iterator: a row run by run. (Written by wip/tools/genrun.py.)
-/
namespace Go.Proofs.YtckammgnmgkieaaGreat
set_option maxRecDepth 20000
open Go.RowKit Go.Shelf
set_option maxRecDepth 20000
set_option linter.unusedVariables false
set_option linter.unusedSimpArgs false

abbrev Seg (n : Nat) := { x : Nat × Nat // x.1 < x.2 ∧ x.2 ≤ n }
def segV (g off c : Nat) {n : Nat} (x : Seg n) : Array Value := #[.slice (some ⟨g, off + x.1.1 * 7, none⟩) (x.1.2 - x.1.1) (c - x.1.1)]
structure RunW (b1 b2 : Nat) (a : Option Addr) (g off n c : Nat) (css : List (List Value)) (rs : List Rc) (Kp : World → World → Prop) (R : World → Prop) : Prop where
  c1 : ∀ W, R W → W.cell? ⟨b1, 0, none⟩ = some (.slice a n c)
  c2 : ∀ W, R W → W.cell? ⟨b2, 0, none⟩ = some (.func (.func 115) #[] #[])
  ha : 0 < n → a = some ⟨g, off, none⟩
  el : ∀ W, R W → ∀ k (hlt : k < css.length) (u0 u1 u2 u3 u4 u5 u6 : Value), css[k] = [u0, u1, u2, u3, u4, u5, u6] →
      W.cell? ⟨g, off + k * 7, none⟩ = some u0 ∧ W.cell? ⟨g, off + k * 7 + 1, none⟩ = some u1 ∧ W.cell? ⟨g, off + k * 7 + 2, none⟩ = some u2 ∧ W.cell? ⟨g, off + k * 7 + 3, none⟩ = some u3 ∧ W.cell? ⟨g, off + k * 7 + 4, none⟩ = some u4 ∧ W.cell? ⟨g, off + k * 7 + 5, none⟩ = some u5 ∧ W.cell? ⟨g, off + k * 7 + 6, none⟩ = some u6
  same : ∀ W, R W → ∀ i j (hi : i < css.length) (hj : j < css.length) (hi' : i < rs.length) (hj' : j < rs.length), Calls Tryz.prog 115 #[.agg css[i].toArray, .agg css[j].toArray] W fun e W' => e = .returned (.bool (sameR rs[i] rs[j])) ∧ Below W.heap.size W W'
  below : ∀ W W', R W → Below W.heap.size W W' → R W'
  kp : ∀ W W', R W → Kp W W' → R W'
  shape : ∀ k (hk : k < css.length), ∃ (t x : Int) (x0 x3 x4 x5 x6 : Option Addr × Nat × Nat), css[k] = [.slice x0.1 x0.2.1 x0.2.2, .int .u32 t, .int .i64 x, .slice x3.1 x3.2.1 x3.2.2, .slice x4.1 x4.2.1 x4.2.2, .slice x5.1 x5.2.1 x5.2.2, .slice x6.1 x6.2.1 x6.2.2]
theorem below_drew0 (W : World) : Below W.heap.size W W.drew := ⟨rfl, rfl, rfl, Nat.le_refl _, fun _ _ => rfl⟩
section
attribute [local go_sem] Oper.semAt_some
set_option maxRecDepth 100000 in
set_option maxHeartbeats 8000000 in
theorem runs1_in (nf : Nat) (hnf : 3 ≤ nf) (l b1 b2 : Nat) (a : Option Addr) (g off n c : Nat) (hnc : n ≤ c) (hn63 : n ≤ 1000000000000) (css : List (List Value)) (rs : List Rc) (hcl : css.length = n) (hrl : rs.length = n) (Kp : World → World → Prop) (R : World → Prop) (H : RunW b1 b2 a g off n c css rs Kp R)
    (J Jx : List (Seg n) → World → Prop) (hJ : ∀ pre W W', J pre W → Below W.heap.size W W' → J pre W')
    (hY : ∀ pre x W, J pre W → pre.length < n → YieldAt Fence.wide (nf - 1) Tryz.prog l (segV g off c x) W fun e W' =>
      (e = .returned (.bool true) ∧ J (pre ++ [x]) W' ∧ Kp W W') ∨ (e = .returned (.bool false) ∧ Jx (pre ++ [x]) W'))
    (W : World) (hR : R W) (h0 : J [] W) :
    CallsIn Fence.wide nf Tryz.prog 149 #[.func (.yield l) #[] #[], .pointer (some ⟨b1, 0, none⟩), .pointer (some ⟨b2, 0, none⟩)] W fun e W' => (∃ v, e = .returned v) ∧
      ((∃ ys : List (Seg n), ys.map (·.1) = segs rs ∧ J ys W') ∨ (∃ pre : List (Seg n), Jx pre W')) := by
  have hn1' : 1 ≤ nf := by omega
  have HJJ := Lib.hid hJ
  have HCL := Lib.hid hcl; have HRL := Lib.hid hrl
  clear hJ
  have HR0 := Lib.hid hR
  have HJ0 := Lib.hid h0
  clear hR h0
  refine callsIn_of_wp Tryz.func149 rfl trivial ?_ rfl
  simp only [Tryz.ntmps149, List.size_toArray, List.length_cons, List.length_nil, Nat.reduceAdd, Nat.reduceSub, Array.replicate_succ, Array.replicate_zero, List.push_toArray, List.append_toArray, List.nil_append, List.cons_append]
  gi_wp2
  gi_loopw [4] (fun v4 wr => ∃ (s : Nat) (pre : List (Seg n)), v4 = .int .i64 s ∧ s ≤ n ∧ Hid (pre.map (·.1) ++ leftM rs s = segs rs ∧ pre.length ≤ s) ∧ Hid (J pre wr) ∧ Hid (R wr))
    (fun v4 _ => n - (intOf v4).toNat)
  case atStart => exact ⟨0, [], rfl, Nat.zero_le _, Lib.hid ⟨rfl, Nat.zero_le _⟩, HJ0, HR0⟩
  case round =>
    obtain ⟨s, pre, rfl, hs, HP, HJ, HR⟩ := hrel
    have hc0 := H.c1 _ HR.out
    by_cases hlt : s < n
    · have ha := H.ha (by omega)
      subst ha
      have hltz : (s : Int) < (n : Int) := by omega
      have hsr : s < rs.length := by omega
      have HRJ0 := Lib.hid (And.intro HR.out HJ.out)
      clear HR HJ
      gi_wp2
      clear hc0
      rename World => w1
      gi_loopw [5] (fun v5 wr => ∃ (e : Nat), v5 = .int .i64 e ∧ s + 1 ≤ e ∧ e ≤ n ∧ Hid (e ≤ nxtM rs s) ∧ Hid (R wr ∧ J pre wr))
        (fun v5 _ => n - (intOf v5).toNat)
      case atStart => exact ⟨s + 1, by go_num, Nat.le_refl _, by omega, Lib.hid (by have := nxtM_lt hsr; omega), HRJ0⟩
      case round =>
        obtain ⟨e, rfl, he1, he2, HE, HRJ⟩ := hrel
        have hne : Nonempty (WIn (fun W => R W ∧ J pre W)) := ⟨⟨_, HRJ.out⟩⟩
        have k1 : ∀ p : WIn (fun W => R W ∧ J pre W), p.w.cell? ⟨b1, 0, none⟩ = some (.slice (some ⟨g, off, none⟩) n c) := fun p => H.c1 _ p.ok.1
        have k2 : ∀ p : WIn (fun W => R W ∧ J pre W), p.w.cell? ⟨b2, 0, none⟩ = some (.func (.func 115) #[] #[]) := fun p => H.c2 _ p.ok.1
        have HD : Hid (∀ W, R W ∧ J pre W → ∀ W', Below W.heap.size W W' → R W' ∧ J pre W') := Lib.hid fun W h W' hb => ⟨H.below _ _ h.1 hb, HJJ.out _ _ _ h.2 hb⟩
        by_cases hen : e < n
        · have henz : (e : Int) < (n : Int) := by omega
          obtain ⟨t0, y0, ⟨p0, q0, r0⟩, ⟨p3, q3, r3⟩, ⟨p4, q4, r4⟩, ⟨p5, q5, r5⟩, ⟨p6, q6, r6⟩, e0⟩ := H.shape s (by omega)
          obtain ⟨t1, y1, ⟨p0', q0', r0'⟩, ⟨p3', q3', r3'⟩, ⟨p4', q4', r4'⟩, ⟨p5', q5', r5'⟩, ⟨p6', q6', r6'⟩, e1⟩ := H.shape e (by omega)
          simp only at e0 e1
          have f0 := fun p : WIn (fun W => R W ∧ J pre W) => (H.el _ p.ok.1 s (by omega) _ _ _ _ _ _ _ e0)
          have f1 := fun p : WIn (fun W => R W ∧ J pre W) => (H.el _ p.ok.1 e (by omega) _ _ _ _ _ _ _ e1)
          have g0 := fun p => (f0 p).1; have g1 := fun p => (f0 p).2.1; have g2 := fun p => (f0 p).2.2.1; have g3 := fun p => (f0 p).2.2.2.1; have g4 := fun p => (f0 p).2.2.2.2.1; have g5 := fun p => (f0 p).2.2.2.2.2.1; have g6 := fun p => (f0 p).2.2.2.2.2.2
          have j0 := fun p => (f1 p).1; have j1 := fun p => (f1 p).2.1; have j2 := fun p => (f1 p).2.2.1; have j3 := fun p => (f1 p).2.2.2.1; have j4 := fun p => (f1 p).2.2.2.2.1; have j5 := fun p => (f1 p).2.2.2.2.2.1; have j6 := fun p => (f1 p).2.2.2.2.2.2
          have hcg := fun p : WIn (fun W => R W ∧ J pre W) => CallsIn.cls (C := fun W => R W ∧ J pre W) (callsIn_wide (n := nf - 1) |>.2 ((H.same _ p.ok.1 s e (by omega) (by omega) (by omega) (by omega)).mono fun _ _ ⟨hq, hb⟩ => ⟨hq, HD.out _ p.ok _ hb⟩))
          rw [e0, e1] at hcg
          obtain ⟨sm, hsm⟩ : ∃ sm, sameR (rs[s]'(by omega)) (rs[e]'(by omega)) = sm := ⟨_, rfl⟩
          rw [hsm] at hcg
          have HSM := Lib.hid hsm
          have hn1 : 1 ≤ nf - 1 := by omega
          clear f0 f1 e0 e1 hsm
          cases sm
          · have HWHY : Hid (e = rs.length ∨ ∃ he : e < rs.length, sameR (rs[s]'hsr) (rs[e]'he) = false) := Lib.hid (Or.inr ⟨by omega, HSM.out⟩)
            gi_wp2_with fail
            refine wpIn_region_cls (fun W => R W ∧ J pre W) rfl follows_mixed (by kernel_rfl) (HD.out _ HRJ.out _ (below_drew0 _)) ?_
            repeat (gi_big_quiet_step (fail))
            refine wpQuietIn_step (fun _ _ _ _ => trivial) (fun K hK => ?_)
            go_simp
            apply Exists.intro
            refine ⟨fun q => (by first | exact hcg q | exact ⟨fun _ => (by omega), hcg q⟩), hK _ ?_⟩
            clear hK K
            repeat (gi_big_quiet_step (fail))
            refine wpQuietIn_nil ?_
            rintro _ ⟨p, rfl⟩
            have HRJ := Lib.hid p.ok
            clear k1 k2 g0 g1 g2 g3 g4 g5 g6 j0 j1 j2 j3 j4 j5 j6 hcg
            have hcs : ¬ c = s := by omega
            have hnx := nxtM_stop (rs := rs) (s := s) (e := e) (by omega) he1 HE.out (HWHY.out)
            obtain ⟨HRp, hJp⟩ := HRJ.out
            have hx : s < e ∧ e ≤ n := ⟨by omega, by omega⟩
            obtain ⟨fn, tmps, assign, body, hy, hR⟩ := hY pre ⟨(s, e), hx⟩ p.w hJp (by have := HP.out.2; omega)
            unfold segV at hy
            simp only at hy
            have hc1 := H.c1 _ HRp
            have HRR := Lib.hid hR
            have HNX := Lib.hid hnx
            have HX := Lib.hid hx
            have HRP := Lib.hid HRp
            have hse : (s : Int) ≤ (e : Int) := by omega
            have hec : (e : Int) ≤ (c : Int) := by omega
            have hes : ((e : Int) - (s : Int)).toNat = e - s := by omega
            have hcz : ((c : Int) - (s : Int)).toNat = c - s := by omega
            clear hR hnx HRp hJp HRJ
            gi_wp2
            refine HRR.out.mono ?_
            rintro e' W3 (⟨rfl, hJ3, hk3⟩ | ⟨rfl, hJx3⟩)
            · have HR3 := Lib.hid (H.kp _ _ HRP.out hk3)
              have HJ3 := Lib.hid hJ3
              clear hJ3 hk3 HRR
              gi_wp2
              go_roundw
              case measure => simp [intOf]; omega
              case rel =>
                refine ⟨e, pre ++ [⟨(s, e), HX.out⟩], rfl, by omega, Lib.hid ⟨?_, by have := HP.out.2; simp; omega⟩, HJ3, HR3⟩
                have hp := HP.out.1
                rw [leftM_step (by omega), ← HNX.out] at hp
                simpa using hp
            · gi_wp2
              refine bodyPost_ret (results_none rfl _ _ _) rfl ?_
              exact ⟨⟨_, rfl⟩, .inr ⟨_, hJx3⟩⟩
          · have hmo : e + 1 ≤ nxtM rs s := nxtM_more hsr he1 HE.out (by omega) HSM.out
            have HMO := Lib.hid hmo
            clear hmo
            gi_wp2_with fail
            refine wpIn_region_cls (fun W => R W ∧ J pre W) rfl follows_mixed (by kernel_rfl) (HD.out _ HRJ.out _ (below_drew0 _)) ?_
            repeat (gi_big_quiet_step (fail))
            refine wpQuietIn_step (fun _ _ _ _ => trivial) (fun K hK => ?_)
            go_simp
            apply Exists.intro
            refine ⟨fun q => (by first | exact hcg q | exact ⟨fun _ => (by omega), hcg q⟩), hK _ ?_⟩
            clear hK K
            repeat (gi_big_quiet_step (fail))
            refine wpQuietIn_nil ?_
            rintro _ ⟨p, rfl⟩
            have HRJ := Lib.hid p.ok
            clear k1 k2 g0 g1 g2 g3 g4 g5 g6 j0 j1 j2 j3 j4 j5 j6 hcg
            gi_wp2
            go_roundw
            case measure => simp [intOf]; omega
            case rel => exact ⟨e + 1, by go_num, by omega, by omega, HMO, HRJ⟩
        · obtain rfl : n = e := by omega
          have HWHY : Hid (n = rs.length ∨ ∃ he : n < rs.length, sameR (rs[s]'hsr) (rs[n]'he) = false) := Lib.hid (Or.inl (by omega))
          gi_wp2_with fail
          refine wpIn_region_cls (fun W => R W ∧ J pre W) rfl follows_mixed (by kernel_rfl) (HD.out _ HRJ.out _ (below_drew0 _)) ?_
          repeat (gi_big_quiet_step (fail))
          refine wpQuietIn_step (fun _ _ _ _ => trivial) (fun K hK => ?_)
          go_simp
          refine hK _ ?_
          clear hK K
          repeat (gi_big_quiet_step (fail))
          refine wpQuietIn_nil ?_
          rintro _ ⟨p, rfl⟩
          have HRJ := Lib.hid p.ok
          clear k1 k2
          have hcs : ¬ c = s := by omega
          have hnx := nxtM_stop (rs := rs) (s := s) (e := n) (by omega) he1 HE.out (HWHY.out)
          obtain ⟨HRp, hJp⟩ := HRJ.out
          have hx : s < n ∧ n ≤ n := ⟨by omega, by omega⟩
          obtain ⟨fn, tmps, assign, body, hy, hR⟩ := hY pre ⟨(s, n), hx⟩ p.w hJp (by have := HP.out.2; omega)
          unfold segV at hy
          simp only at hy
          have hc1 := H.c1 _ HRp
          have HRR := Lib.hid hR
          have HNX := Lib.hid hnx
          have HX := Lib.hid hx
          have HRP := Lib.hid HRp
          have hse : (s : Int) ≤ (n : Int) := by omega
          have hec : (n : Int) ≤ (c : Int) := by omega
          have hes : ((n : Int) - (s : Int)).toNat = n - s := by omega
          have hcz : ((c : Int) - (s : Int)).toNat = c - s := by omega
          clear hR hnx HRp hJp HRJ
          gi_wp2
          refine HRR.out.mono ?_
          rintro e' W3 (⟨rfl, hJ3, hk3⟩ | ⟨rfl, hJx3⟩)
          · have HR3 := Lib.hid (H.kp _ _ HRP.out hk3)
            have HJ3 := Lib.hid hJ3
            clear hJ3 hk3 HRR
            gi_wp2
            go_roundw
            case measure => simp [intOf]; omega
            case rel =>
              refine ⟨n, pre ++ [⟨(s, n), HX.out⟩], rfl, by omega, Lib.hid ⟨?_, by have := HP.out.2; simp; omega⟩, HJ3, HR3⟩
              have hp := HP.out.1
              rw [leftM_step (by omega), ← HNX.out] at hp
              simpa using hp
          · gi_wp2
            refine bodyPost_ret (results_none rfl _ _ _) rfl ?_
            exact ⟨⟨_, rfl⟩, .inr ⟨_, hJx3⟩⟩
    · obtain rfl : s = n := by omega
      gi_wp2
      go_end0
      have hp := HP.out.1
      rw [leftM_end rs (by omega), List.append_nil] at hp
      exact ⟨⟨_, rfl⟩, .inl ⟨pre, hp, HJ.out⟩⟩
end
end Go.Proofs.YtckammgnmgkieaaGreat

