/-
  text.rows as an iterator; Lines, Text.
-/
import Derived.Test.YtbnkecmhmcligaaDoorMQ29
namespace Go.Proofs.YtbnkecmhmcligaaDoor
set_option linter.unusedVariables false
set_option linter.unusedSimpArgs false
open Go.RowKit Go.Shelf
set_option maxRecDepth 20000
theorem roundIn_wideR {m m' : Nat} {P : Program} {l : Nat} {f : FuncId} {tmps : Array Value} {assign body : Code} {w : World} {R : Ending → World → Prop} (h : RoundIn Fence.wide m P l f tmps assign body w R) : RoundIn Fence.wide m' P l f tmps assign body w R :=
  ⟨h.1, fun c cs _ => h.2 c cs (room_wide _)⟩
theorem yieldAt_wideR {m : Nat} (m' : Nat) {P : Program} {l : Nat} {args : Array Value} {W : World} {R : Ending → World → Prop} (h : YieldAt Fence.wide m P l args W R) : YieldAt Fence.wide m' P l args W R := by
  obtain ⟨fn, tmps, assign, body, hy, hR⟩ := h
  exact ⟨fn, tmps, assign, body, hy, roundIn_wideR hR⟩
theorem linesM_len (r : Rp) : (linesM r).length = r.errs.length + r.flaws.length + r.edges.length + r.seen.length + (lastW r.err).length := by
  unfold linesM; simp only [List.length_append, List.length_map]
theorem linesM_few (r : Rp) (hk : RpOK r) : (linesM r).length ≤ 4001 := by
  have := hk.few
  have : (lastW r.err).length ≤ 1 := by unfold lastW; split <;> simp
  rw [linesM_len]; omega
section
attribute [local go_sem] Oper.semAt_some
set_option maxRecDepth 100000 in
set_option maxHeartbeats 8000000 in
theorem rows1_in (nf : Nat) (hnf : 4 ≤ nf) (l b1 : Nat) (ve vf vd vs : Value) (r : Rp) (hk : RpOK r) (R : World → Prop) (hc : ∀ W, R W → W.cell? ⟨b1, 0, none⟩ = some ve ∧ W.cell? ⟨b1, 1, none⟩ = some vf ∧ W.cell? ⟨b1, 2, none⟩ = some vd ∧ W.cell? ⟨b1, 3, none⟩ = some vs ∧ W.cell? ⟨b1, 4, none⟩ = some (.int .i64 r.err))
    (hA : ∀ W, R W → RpAt W ve vf vd vs r) (hTab : ∀ W, R W → Tab W) (hRb : ∀ W W', R W → Below W.heap.size W W' → R W') (Kp : World → World → Prop) (hkp : ∀ W W', R W → Kp W W' → R W')
    (J Jx : List (List UInt8) → World → Prop) (hJ : ∀ pre W W', J pre W → Below W.heap.size W W' → J pre W')
    (hY : ∀ pre s W, J pre W → pre.length < (linesM r).length → s.length ≤ 10000000 → YieldAt Fence.wide (nf - 1) Tryd.prog l (txV s) W fun e W' =>
      (e = .returned (.bool true) ∧ J (pre ++ [s]) W' ∧ Kp W W') ∨ (e = .returned (.bool false) ∧ Jx (pre ++ [s]) W'))
    (W : World) (hR : R W) (h0 : J [] W) :
    CallsIn Fence.wide nf Tryd.prog 18 #[.func (.yield l) #[] #[], .pointer (some ⟨b1, 0, none⟩)] W fun e W' => (∃ v, e = .returned v) ∧ (J (linesM r) W' ∨ ∃ pre, Jx pre W') := by
  have hn1 : 1 ≤ nf := by omega
  have hY2 : ∀ m, ∀ pre s W, J pre W → pre.length < (linesM r).length → s.length ≤ 10000000 → YieldAt Fence.wide m Tryd.prog l (txV s) W fun e W' => (e = .returned (.bool true) ∧ J (pre ++ [s]) W' ∧ Kp W W') ∨ (e = .returned (.bool false) ∧ Jx (pre ++ [s]) W') := fun m pre s W hj hl hs => yieldAt_wideR _ (hY pre s W hj hl hs)
  have hln := linesM_len r
  have hE := fun W1 (hR1 : R W1) (hj : J [] W1) => each_E (nf - 1) (by omega) l ve r.errs hk.few.1 hk.errs _ R (fun W h => (hA W h).e) hTab hRb Kp hkp J Jx hJ (hY2 _) [] (by rw [hln, List.length_nil]; omega) W1 hR1 hj
  have hF := fun W1 (hR1 : R W1) (hj : J ([] ++ r.errs.map eRow) W1) => each_F (nf - 1) (by omega) l vf r.flaws hk.few.2.1 hk.flaws _ R (fun W h => (hA W h).f) hTab hRb Kp hkp J Jx hJ (hY2 _) _ (by rw [hln]; simp only [List.length_append, List.length_map, List.length_nil]; omega) W1 hR1 hj
  have hD := fun W1 (hR1 : R W1) (hj : J ([] ++ r.errs.map eRow ++ r.flaws.map fRow) W1) => each_D (nf - 1) (by omega) l vd r.edges hk.few.2.2.1 hk.edges _ R (fun W h => (hA W h).d) hTab hRb Kp hkp J Jx hJ (hY2 _) _ (by rw [hln]; simp only [List.length_append, List.length_map, List.length_nil]; omega) W1 hR1 hj
  have hS := fun W1 (hR1 : R W1) (hj : J ([] ++ r.errs.map eRow ++ r.flaws.map fRow ++ r.edges.map dRow) W1) => each_S (nf - 1) (by omega) l vs r.seen hk.few.2.2.2 hk.seen _ R (fun W h => (hA W h).s) hTab hRb Kp hkp J Jx hJ (hY2 _) _ (by rw [hln]; simp only [List.length_append, List.length_map, List.length_nil]; omega) W1 hR1 hj
  have HF := Lib.hid hF; have HD := Lib.hid hD; have HS := Lib.hid hS; have HC := Lib.hid hc; have HKE := Lib.hid hk.err
  have HYY := Lib.hid (hY2 (nf - 1)); have HJJ := Lib.hid hJ; have HLN := Lib.hid hln
  obtain ⟨q0, hq0⟩ : ∃ q, ([] : List (List UInt8)) ++ r.errs.map eRow ++ r.flaws.map fRow ++ r.edges.map dRow ++ r.seen.map sRow = q := ⟨_, rfl⟩
  have HQ := Lib.hid (show linesM r = q0 ++ lastW r.err by rw [← hq0]; rfl)
  have HQ0 := Lib.hid hq0
  have h1 := hE W hR h0
  obtain ⟨c0, -⟩ := hc W hR
  have hwd := fun W => rep_wordR r.err hk.err.1 hk.err.2 W
  have HWD := Lib.hid hwd
  have hadd := fun W => add_rep [115, 116, 111, 112, 112, 101, 100, 32] (wR.getD r.err.toNat []) (stopW r.err) rfl (by unfold stopW; have := wR_len r.err.toNat; simp only [List.length_append, List.length_cons, List.length_nil]; omega) W
  have HADD := Lib.hid hadd
  clear hE hF hD hS hc hA hTab hRb hkp hY hY2 hk hln hq0 hR h0 hwd hadd hJ
  refine callsIn_of_wp Tryd.func18 rfl trivial ?_ rfl
  simp only [Tryd.ntmps18, List.size_toArray, List.length_cons, List.length_nil, Nat.reduceAdd, Nat.reduceSub, Array.replicate_succ, Array.replicate_zero, List.push_toArray, List.append_toArray, List.nil_append, List.cons_append]
  gi_wp2_with fail
  refine ⟨trivial, ?_⟩
  refine h1.mono ?_
  rintro e w1 (⟨rfl, hJ1, hR1⟩ | ⟨rfl, pre, hJx⟩)
  rotate_left
  · gi_wp2_with (refine ⟨trivial, ?_⟩)
    refine bodyPost_end (results_none rfl _ _ _) rfl ?_
    exact ⟨⟨_, rfl⟩, .inr ⟨_, hJx⟩⟩
  have h2 := HF.out w1 hR1 hJ1
  obtain ⟨-, c1, -⟩ := HC.out w1 hR1
  clear hJ1 hR1 h1 c0
  gi_wp2_with fail
  refine ⟨trivial, ?_⟩
  refine h2.mono ?_
  rintro e w2 (⟨rfl, hJ2, hR2⟩ | ⟨rfl, pre, hJx⟩)
  rotate_left
  · gi_wp2_with (refine ⟨trivial, ?_⟩)
    refine bodyPost_end (results_none rfl _ _ _) rfl ?_
    exact ⟨⟨_, rfl⟩, .inr ⟨_, hJx⟩⟩
  have h3 := HD.out w2 hR2 hJ2
  obtain ⟨-, -, c2, -⟩ := HC.out w2 hR2
  clear hJ2 hR2 h2 c1
  gi_wp2_with fail
  refine ⟨trivial, ?_⟩
  refine h3.mono ?_
  rintro e w3 (⟨rfl, hJ3, hR3⟩ | ⟨rfl, pre, hJx⟩)
  rotate_left
  · gi_wp2_with (refine ⟨trivial, ?_⟩)
    refine bodyPost_end (results_none rfl _ _ _) rfl ?_
    exact ⟨⟨_, rfl⟩, .inr ⟨_, hJx⟩⟩
  have h4 := HS.out w3 hR3 hJ3
  obtain ⟨-, -, -, c3, -⟩ := HC.out w3 hR3
  clear hJ3 hR3 h3 c2
  gi_wp2_with fail
  refine ⟨trivial, ?_⟩
  refine h4.mono ?_
  rintro e w4 (⟨rfl, hJ4, hR4⟩ | ⟨rfl, pre, hJx⟩)
  rotate_left
  · gi_wp2_with (refine ⟨trivial, ?_⟩)
    refine bodyPost_end (results_none rfl _ _ _) rfl ?_
    exact ⟨⟨_, rfl⟩, .inr ⟨_, hJx⟩⟩
  obtain ⟨-, -, -, -, c4⟩ := HC.out w4 hR4
  rw [HQ0.out] at hJ4
  clear hR4 h4 c3
  obtain ⟨er, her⟩ : ∃ e, r.err = e := ⟨_, rfl⟩
  rw [her] at c4 HQ HKE HWD HADD
  by_cases he : er = 0
  · subst he
    have e : linesM r = q0 := by rw [HQ.out]; simp [lastW]
    rw [← e] at hJ4
    have HJ4 := Lib.hid hJ4
    clear hJ4 e
    gi_wp2
    refine bodyPost_end (results_none rfl _ _ _) rfl ?_
    exact ⟨⟨_, rfl⟩, .inl HJ4.out⟩
  · have he' : (er != 0) = true := by simp [he]
    have e : linesM r = q0 ++ [stopW er] := by rw [HQ.out]; unfold lastW; rw [if_neg he]
    have hlt : q0.length < (linesM r).length := by rw [e]; simp
    have hsl : (stopW er).length ≤ 10000000 := by unfold stopW; have := wR_len er.toNat; simp only [List.length_append, List.length_cons, List.length_nil]; omega
    have HY4 := Lib.hid (fun W' (hb : Below w4.heap.size w4 W') => HYY.out q0 (stopW er) W' (HJJ.out _ _ _ hJ4 hb) hlt hsl)
    have HE := Lib.hid e
    have hw := HWD.out w4
    have ha := HADD.out
    clear hJ4 e hlt hsl her HWD HADD HQ HYY
    generalize stopW er = s at *
    generalize wR.getD er.toNat [] = x at *
    generalize (⟨x.toArray⟩ : ByteArray) = cx at *
    have B0 : ∀ W, (Op.stringOp .add (⟨#[115, 116, 111, 112, 112, 101, 100, 32]⟩ : ByteArray) cx).run Tryd.prog W = .ok (.string ⟨s.toArray⟩) W := ha
    clear ha
    gi_wp2_with fail
    refine ⟨trivial, ?_⟩
    refine (callsIn_wide.2 hw).mono ?_
    rintro e w5 ⟨rfl, rfl⟩
    obtain ⟨fn, tmps, assign, body, hy, hRd⟩ := HY4.out w5 (Below.refl _ _)
    unfold txV strV at hy
    have HRR := Lib.hid hRd
    clear hRd
    gi_wp2
    refine HRR.out.mono ?_
    rintro e' W3 (⟨rfl, hJ3, hk3⟩ | ⟨rfl, hJx3⟩)
    · rw [← HE.out] at hJ3
      gi_wp2
      refine bodyPost_end (results_none rfl _ _ _) rfl ?_
      exact ⟨⟨_, rfl⟩, .inl hJ3⟩
    · gi_wp2
      refine bodyPost_end (results_none rfl _ _ _) rfl ?_
      exact ⟨⟨_, rfl⟩, .inr ⟨_, hJx3⟩⟩
end
/-- All blocks below n0 but B lie as they lay. -/
structure KpR (n0 B : Nat) (W W' : World) : Prop where
  os : W'.os = W.os
  tape : W'.tape = W.tape
  output : W'.output = W.output
  size : W.heap.size ≤ W'.heap.size
  block : ∀ k, k < n0 → k ≠ B → W'.heap[k]? = W.heap[k]?
theorem KpR.refl (n0 B : Nat) (W : World) : KpR n0 B W W := ⟨rfl, rfl, rfl, Nat.le_refl _, fun _ _ _ => rfl⟩
theorem KpR.trans {n0 B : Nat} {W W' W'' : World} (h : KpR n0 B W W') (k : KpR n0 B W' W'') : KpR n0 B W W'' :=
  ⟨k.os.trans h.os, k.tape.trans h.tape, k.output.trans h.output, Nat.le_trans h.size k.size, fun i a b => (k.block i a b).trans (h.block i a b)⟩
theorem KpR.grown {n0 B : Nat} {W W' : World} {row : Option Nat} (hn : n0 ≤ W.heap.size) (hg : W.grownBy W' row) (hr : ∀ r, row = some r → n0 ≤ r ∨ r = B) : KpR n0 B W W' :=
  ⟨hg.os, hg.tape, hg.output, hg.size, fun i a b => hg.block i (by omega) (fun e => by rcases hr i e.symm with h | h <;> omega)⟩
theorem grown_of_belowR {W W' : World} (hb : Below W.heap.size W W') : W.grownBy W' none := ⟨hb.os, hb.tape, hb.output, hb.size, fun k hk _ => hb.block k hk⟩
theorem KpR.of_below {n0 B : Nat} {W W' : World} (hn : n0 ≤ W.heap.size) (hb : Below W.heap.size W W') : KpR n0 B W W' := KpR.grown hn (grown_of_belowR hb) (fun r e => by cases e)
theorem KpR.below {n0 B m : Nat} {W W' : World} (h : KpR n0 B W W') (h1 : m ≤ B) (h2 : m ≤ n0) : Below m W W' := ⟨h.os, h.tape, h.output, h.size, fun k hk => h.block k (by omega) (by omega)⟩
/-- A line, not long. -/
abbrev Ln := { s : List UInt8 // s.length ≤ 10000000 }
def lnV (s : Ln) : Array Value := #[strV s.1]
theorem rows_stops (N B : Nat) (w W0 : World) (b1 : Nat) (ve vf vd vs : Value) (r : Rp) (hk : RpOK r) (hA : RpAt w ve vf vd vs r) (hT : Tab w) (hw : Below w.heap.size w W0) (hB : w.heap.size ≤ B) (hN : N = W0.heap.size) (hb1 : b1 < N) (hne : b1 ≠ B)
    (hbx : W0.heap[b1]? = some (.cells #[ve, vf, vd, vs, .int .i64 r.err] 30)) :
    SeqStopsK Fence.wide 7 Tryd.prog 18 #[.pointer (some ⟨b1, 0, none⟩)] lnV (KpR N B) (fun xs => xs.map (·.1) = linesM r) (fun _ => True) (linesM r).length W0 := by
  intro l J Jx W hW hJ hJx hY h0
  have hww : ∀ W, KpR N B W0 W → Below w.heap.size w W := fun W h => hw.trans (h.below hB (by rw [hN]; exact hw.size))
  refine (rows1_in 7 (by omega) l b1 ve vf vd vs r hk (KpR N B W0) (fun W h => ?_) (fun W h => hA.below (hww W h)) (fun W h => hT.below (hww W h)) (fun W W' h hb => h.trans (KpR.of_below (by rw [hN]; exact h.size) hb)) (KpR N B) (fun W W' h k => h.trans k)
    (fun pre W => ∃ ys : List Ln, ys.map (·.1) = pre ∧ J ys W) (fun pre W => ∃ ys : List Ln, ys.map (·.1) = pre ∧ Jx ys W) (fun pre W W' ⟨ys, e, h⟩ hb => ⟨ys, e, hJ ys W W' none h (grown_of_belowR hb) (fun _ e => by cases e)⟩)
    (fun pre s W ⟨ys, e, h⟩ hl hs => ?_) W (KpR.of_below (by omega) hW) ⟨[], rfl, h0⟩).mono ?_
  · have hb := (h.block b1 hb1 hne).trans hbx
    exact ⟨kcell hb 0 _ rfl, kcell hb 1 _ rfl, kcell hb 2 _ rfl, kcell hb 3 _ rfl, kcell hb 4 _ rfl⟩
  · have hl' : ys.length < (linesM r).length := by rw [← e, List.length_map] at hl; exact hl
    refine (hY ys ⟨s, hs⟩ W h hl').mono ?_
    rintro e' W' (⟨rfl, h1, h2⟩ | ⟨rfl, h1⟩)
    · exact .inl ⟨rfl, ⟨_, by simp [e], h1⟩, h2⟩
    · exact .inr ⟨rfl, _, by simp [e], h1⟩
  · rintro e W' ⟨h1, ⟨ys, e2, h2⟩ | ⟨pre, ys, e2, h2⟩⟩
    · exact ⟨h1, .inl ⟨ys, e2, h2⟩⟩
    · exact ⟨h1, .inr ⟨ys, trivial, h2⟩⟩
theorem text_rows (cs : Array Value) (hc : ∃ a b c d e, cs = #[a, b, c, d, e]) (w : World) :
    Calls Tryd.prog 11 #[.agg cs] w fun e w' => e = .returned (.func (.func 18) #[] #[.pointer (some ⟨w.heap.size, 0, none⟩)]) ∧ w' = w.alloc (.cells cs 30) := by
  obtain ⟨a, b, c, d, e, rfl⟩ := hc
  go_enter Tryd.func11, Tryd.ntmps11
  go_wp2
  go_ret
  exact ⟨rfl, rfl⟩
section
attribute [local go_sem] Oper.semAt_some
def LinI (N B : Nat) (W0 : World) (pre : List Ln) (W : World) : Prop := KpR N B W0 W ∧ GBox 9 35 strV B N (pre.map (·.1)) W
theorem linI_own {N B : Nat} {W0 : World} (hn : N ≤ W0.heap.size) : OwnFrom N (LinI N B W0) := by
  rintro pre W W' row ⟨h1, h2⟩ hg hr
  exact ⟨h1.trans (KpR.grown (Nat.le_trans hn h1.size) hg (fun r e => .inl (hr r e).1)), gBox_own B N (fun pre : List Ln => pre.map (·.1)) pre W W' row h2 hg (fun r e => (hr r e).2)⟩
theorem KpR.appended {N B n0 : Nat} {W W' : World} (hb : Below n0 W W') (hk : ∀ b, b < N → b ≠ B → KeepB b W W') : KpR N B W W' := ⟨hb.os, hb.tape, hb.output, hb.size, fun k h1 h2 => hk k h1 h2⟩
set_option maxRecDepth 100000 in
set_option maxHeartbeats 8000000 in
theorem text_Lines (ve vf vd vs : Value) (r : Rp) (w : World) (hA : RpAt w ve vf vd vs r) (hk : RpOK r) (hT : Tab w) (er : Int) (her : r.err = er) :
    Calls Tryd.prog 7 #[.agg #[ve, vf, vd, vs, .int .i64 er]] w fun e w' => ∃ v, e = .returned v ∧ OwnG 9 strV w' w.heap.size v (linesM r) ∧ Below w.heap.size w w' := by
  obtain ⟨W2, hW2⟩ : ∃ W2, (w.alloc (.cells #[ve, vf, vd, vs, .int .i64 er] 30)).alloc (.cells #[.slice none 0 0] 35) = W2 := ⟨_, rfl⟩
  obtain ⟨W0, hW0⟩ : ∃ W0, W2.alloc (.cells #[ve, vf, vd, vs, .int .i64 er] 30) = W0 := ⟨_, rfl⟩
  have hz2 : W2.heap.size = w.heap.size + 2 := by rw [← hW2]; simp
  have hz0 : W0.heap.size = w.heap.size + 3 := by rw [← hW0]; simp [hz2]
  have hb2 : Below w.heap.size w W2 := by rw [← hW2]; exact ((Below.refl w.heap.size w).alloc (Nat.le_refl _) _).alloc (by simp) _
  have hb0 : Below w.heap.size w W0 := by rw [← hW0]; exact hb2.alloc hb2.size _
  have x0 : W2.heap[w.heap.size]? = some (.cells #[ve, vf, vd, vs, .int .i64 er] 30) := by
    rw [← hW2]; exact (((Below.refl (w.heap.size + 1) (w.alloc (.cells #[ve, vf, vd, vs, .int .i64 er] 30))).alloc (by simp) _).block _ (by omega)).trans (knew _ _)
  have x1 : Boxed W0 (w.heap.size + 1) 35 (.slice none 0 0) := by
    have h := Boxed.new (w.alloc (.cells #[ve, vf, vd, vs, .int .i64 er] 30)) 35 (.slice none 0 0)
    rw [World.size_alloc, hW2] at h
    rw [← hW0]; exact h.alloc _
  have x2 : W0.heap[w.heap.size + 2]? = some (.cells #[ve, vf, vd, vs, .int .i64 r.err] 30) := by
    rw [← hW0, ← hz2, her]; exact knew _ _
  have hseq := rows_stops (w.heap.size + 3) (w.heap.size + 1) w W0 (w.heap.size + 2) ve vf vd vs r hk hA hT hb0 (by omega) hz0.symm (by omega) (by omega) x2
  have HLL := Lib.hid (linesM_few r hk)
  have c0 := kcell x0 0 _ rfl; have c1 := kcell x0 1 _ rfl; have c2 := kcell x0 2 _ rfl; have c3 := kcell x0 3 _ rfl; have c4 := kcell x0 4 _ rfl
  have HSEQ := Lib.hid hseq; have HZ2 := Lib.hid hz2; have HZ0 := Lib.hid hz0; have HB0 := Lib.hid hb0; have HX1 := Lib.hid x1; have HW0 := Lib.hid hW0
  clear hseq hz0 hz2 hb0 hb2 x0 x1 x2 hW0 hA hk hT her
  refine (callsIn_wide (n := 8)).1 ?_
  refine callsIn_of_wp_marks Tryd.func7 rfl trivial ?_ rfl
  simp only [Tryd.ntmps7, List.size_toArray, List.length_cons, List.length_nil, Nat.reduceAdd, Nat.reduceSub, Array.replicate_succ, Array.replicate_zero, List.push_toArray, List.append_toArray, List.nil_append, List.cons_append]
  gi_wp2_with fail
  refine ⟨trivial, ?_⟩
  refine (callsIn_wide.2 (text_rows _ ⟨_, _, _, _, _, rfl⟩ _)).mono ?_
  rintro e w3 ⟨rfl, rfl⟩
  clear c0 c1 c2 c3 c4
  gi_wp2
  rw [HW0.out, HZ2.out]
  clear hW2 HW0
  refine wpIn_rangeFunc_ownG rfl (by omega) (gf := 18) (lb := #[.pointer (some ⟨w.heap.size + 2, 0, none⟩)]) rfl trivial (enters_of Tryd.func18 (by kernel_rfl) rfl)
    HSEQ.out (fun h k => h.trans k)
    (fun W l o o' hl h h1 h2 => ⟨rfl, rfl, rfl, by simp, fun k a b => World.putObj_heap_other (by have := HZ0.out; omega)⟩) (Below.refl _ _) (fun _ => rfl)
    (LinI (w.heap.size + 3) (w.heap.size + 1) W0) (fun k pre W => False) (by rw [HZ0.out]; exact linI_own (by rw [HZ0.out]; exact Nat.le_refl _)) (fun _ => ownFrom_pure _ _)
    ⟨KpR.refl _ _ _, .slice none 0 0, HX1.out, OwnG.nil _ _⟩
    (fun x => { tmps := #[.agg #[ve, vf, vd, vs, .int .i64 er], .pointer (some ⟨w.heap.size, 0, none⟩), .slice none 0 0, .pointer (some ⟨w.heap.size + 1, 0, none⟩), strV x.1, .agg #[ve, vf, vd, vs, .int .i64 er], .func (.func 18) #[] #[.pointer (some ⟨w.heap.size + 2, 0, none⟩)], strV x.1, undef, undef, undef, undef, undef], defers := [] }) ?assign ?body ?done ?stop
  case assign =>
    intro l x W K hK
    unfold lnV
    gi_wp2
    exact hK
  case body =>
    rintro l pre x W ⟨hK, v, hv, hown⟩ hlt
    have hNW : w.heap.size + 3 ≤ W.heap.size := by rw [← HZ0.out]; exact hK.size
    obtain ⟨va, vc, rfl⟩ := hown.shape
    have hc := hv.cell
    obtain ⟨sx, hxv⟩ : ∃ u, strV x.1 = .string u := ⟨_, rfl⟩
    have hca := (hv.alloc (.cells #[.string sx] 9)).cell
    have HX : Hid ([.string sx] = [x.1].map strV) := Lib.hid (by rw [← hxv]; rfl)
    have hpl : (pre.map (·.1)).length ≤ 4001 := by rw [List.length_map]; have := HLL.out; omega
    have HPL := Lib.hid hpl
    have HK := Lib.hid hK; have HV := Lib.hid hv; have HO := Lib.hid hown; have HNW := Lib.hid hNW
    have HPX : Hid ((pre ++ [x]).map (·.1) = pre.map (·.1) ++ [x.1]) := Lib.hid (by simp)
    rw [hxv]
    generalize pre.map (·.1) = ps at *
    generalize hpn : ps.length = pn at *
    have HPN := Lib.hid hpn
    clear hK hv hown hNW hlt hpl hxv hpn
    gi_wp2_with (gi_at_builtin; refine wplIn_append_g W rfl (.tmp 8) (.tmp 10) elemStr rfl strV_one (w.heap.size + 3) (.slice va pn vc) ps rfl HO.out [.string sx] [x.1] HX.out 1 1 rfl (by simp [Act.eval]) HNW.out (by have := HPL.out; have := HPN.out; unfold maxLen; simp; omega) (by have := HPL.out; have := HPN.out; simp; omega) ?_; intro v' w1 hown' hg'; obtain ⟨a', n', c', rfl⟩ : ∃ a n c, v' = .slice a n c := (by obtain ⟨a, c, e⟩ := hown'.shape; exact ⟨_, _, _, e⟩); obtain ⟨hv1, ho2, hk2, hbb2, hs2⟩ := gboxed_appends2 (n₀ := w.heap.size + 1) (by decide) HV.out HO.out (by omega) (Nat.le_refl _) HNW.out hown' hg'; have hc1 := hv1.cell; have hf1 := hv1.frozen)
    have hkp : KpR (w.heap.size + 3) (w.heap.size + 1) W _ := KpR.appended hbb2 (fun b h1 h2 => hs2 b h1 h2)
    exact ⟨hk2.from _, hkp, HK.out.trans hkp, by rw [HPX.out]; exact ho2⟩
  case done =>
    rintro D ys W hD hys ⟨hK, v, hv, hown⟩ hKD
    rw [hys] at hown
    have hc := hv.cell
    have HK := Lib.hid hK; have HO := Lib.hid hown; have HD := Lib.hid hD; have HKD := Lib.hid hKD
    clear hK hown hD hKD hv hys
    gi_wp2
    refine ⟨by simp, .inl ⟨_, _, rfl, run_takeDeferred HKD.out, ?_⟩⟩
    refine ⟨_, results_tmp rfl _ _ _, v, rfl, (OwnG.putObj HO.out _ HKD.out rfl).weaken (by omega), ?_⟩
    exact (HB0.out.trans (HK.out.below (by omega) (by omega))).trans (belowK_b (w := w) (Nat.le_refl _) W D _ _ (by have := HD.out; have := HZ0.out; omega) HKD.out rfl rfl)
  case stop =>
    rintro D c pre W _ _ h _
    exact h.elim
end
end Go.Proofs.YtbnkecmhmcligaaDoor

