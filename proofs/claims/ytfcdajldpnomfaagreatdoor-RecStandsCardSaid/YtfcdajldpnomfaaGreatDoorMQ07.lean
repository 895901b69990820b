/-
  law5.RecTwo: true for any two records. (Written by wip/tools/gen5t.py.)
-/
import Derived.Test.YtfcdajldpnomfaaGreatDoorMQ38
namespace Go.Proofs.YtfcdajldpnomfaaGreatDoor
open Go.RowKit Go.Shelf
set_option maxRecDepth 20000
set_option linter.unusedVariables false
set_option linter.unusedSimpArgs false

theorem RcArg.below {W W' : World} {cs : List Value} {r : Rc} (h : RcArg W cs r) (hb : Below W.heap.size W W') : RcArg W' cs r := by
  obtain ⟨vo, vn, vu, vt, vr, e, h1, h2, h3⟩ := h
  exact ⟨vo, vn, vu, vt, vr, e, ⟨h1.1.below hb, h1.2⟩, ⟨h2.1.below hb, h2.2⟩, h3⟩
/-- The two boxes, and what lies below them. -/
structure TwB (w : World) (v0 v1 v2 v3 v4 v5 v6 u0 u1 u2 u3 u4 u5 u6 : Value) (W : World) : Prop where
  p : W.heap[w.heap.size]? = some (.cells #[v0, v1, v2, v3, v4, v5, v6] 31)
  q : W.heap[w.heap.size + 1]? = some (.cells #[u0, u1, u2, u3, u4, u5, u6] 31)
  below : Below w.heap.size w W
theorem TwB.keep {w W W' : World} {v0 v1 v2 v3 v4 v5 v6 u0 u1 u2 u3 u4 u5 u6 : Value} (h : TwB w v0 v1 v2 v3 v4 v5 v6 u0 u1 u2 u3 u4 u5 u6 W) (hb : Below W.heap.size W W') : TwB w v0 v1 v2 v3 v4 v5 v6 u0 u1 u2 u3 u4 u5 u6 W' :=
  ⟨(hb.block _ (kblock_lt h.p)).trans h.p, (hb.block _ (kblock_lt h.q)).trans h.q, h.below.trans (hb.mono h.below.size)⟩
def TwS (w : World) (v0 v1 v2 v3 v4 v5 v6 u0 u1 u2 u3 u4 u5 u6 : Value) (W : World) : Prop :=
  W.cell? ⟨w.heap.size, 0, none⟩ = some v0 ∧ W.cell? ⟨w.heap.size, 1, none⟩ = some v1 ∧ W.cell? ⟨w.heap.size, 2, none⟩ = some v2 ∧ W.cell? ⟨w.heap.size, 3, none⟩ = some v3 ∧ W.cell? ⟨w.heap.size, 4, none⟩ = some v4 ∧ W.cell? ⟨w.heap.size, 5, none⟩ = some v5 ∧ W.cell? ⟨w.heap.size, 6, none⟩ = some v6 ∧ W.cell? ⟨w.heap.size + 1, 0, none⟩ = some u0 ∧ W.cell? ⟨w.heap.size + 1, 1, none⟩ = some u1 ∧ W.cell? ⟨w.heap.size + 1, 2, none⟩ = some u2 ∧ W.cell? ⟨w.heap.size + 1, 3, none⟩ = some u3 ∧ W.cell? ⟨w.heap.size + 1, 4, none⟩ = some u4 ∧ W.cell? ⟨w.heap.size + 1, 5, none⟩ = some u5 ∧ W.cell? ⟨w.heap.size + 1, 6, none⟩ = some u6 ∧ TwB w v0 v1 v2 v3 v4 v5 v6 u0 u1 u2 u3 u4 u5 u6 W
theorem TwB.ss {w W : World} {v0 v1 v2 v3 v4 v5 v6 u0 u1 u2 u3 u4 u5 u6 : Value} (h : TwB w v0 v1 v2 v3 v4 v5 v6 u0 u1 u2 u3 u4 u5 u6 W) : TwS w v0 v1 v2 v3 v4 v5 v6 u0 u1 u2 u3 u4 u5 u6 W :=
  ⟨kcell h.p 0 _ rfl, kcell h.p 1 _ rfl, kcell h.p 2 _ rfl, kcell h.p 3 _ rfl, kcell h.p 4 _ rfl, kcell h.p 5 _ rfl, kcell h.p 6 _ rfl, kcell h.q 0 _ rfl, kcell h.q 1 _ rfl, kcell h.q 2 _ rfl, kcell h.q 3 _ rfl, kcell h.q 4 _ rfl, kcell h.q 5 _ rfl, kcell h.q 6 _ rfl, h⟩
theorem TwS.b {w W : World} {v0 v1 v2 v3 v4 v5 v6 u0 u1 u2 u3 u4 u5 u6 : Value} (h : TwS w v0 v1 v2 v3 v4 v5 v6 u0 u1 u2 u3 u4 u5 u6 W) : TwB w v0 v1 v2 v3 v4 v5 v6 u0 u1 u2 u3 u4 u5 u6 W := h.2.2.2.2.2.2.2.2.2.2.2.2.2.2
theorem fewRs_two {a b : Rc} (h : fewRs [a, b] = true) : fewR a = true ∧ fewR b = true := by
  simp only [fewRs, Bool.and_eq_true, List.all_cons, List.all_nil] at h
  exact ⟨h.2.1, h.2.2.1⟩
theorem fewD_names {d : Dat} (h : fewD d = true) : d.names.length ≤ 1048576 := by
  simp only [fewD, Bool.and_eq_true, decide_eq_true_eq] at h
  omega
theorem fewR_names {r : Rc} (h : fewR r = true) : r.data.names.length ≤ 1048576 := by
  simp only [fewR, Bool.and_eq_true] at h
  exact fewD_names h.2
/-- law5.Of, as a law's walk takes it. -/
theorem of5A (cs : List Value) (r : Rc) (w W : World) (hA : RcAt w cs r) (hb : Below w.heap.size w W) (hk : r.data.names.length ≤ 1048576) :
    Calls Tryz.prog 11 #[.agg cs.toArray] W fun e w' => ∃ xa : Array Value, e = .returned (.agg xa) ∧ RcAt w' xa.toList r ∧ Below W.heap.size W w' :=
  (law5_Of w cs r W hA hb hk).mono fun e w' ⟨cs2, he, ho, hb2⟩ => ⟨cs2.toArray, he, ho.rcAt (hb.trans (hb2.mono hb.size)), hb2⟩
theorem ck5A (xa : Array Value) (r : Rc) (w : World) (hA : RcAt w xa.toList r) (hk : RcOK r) :
    Calls Tryz.prog 10 #[.agg xa] w fun e w' => e = .returned (.int .i64 (checkR r)) ∧ Below w.heap.size w w' := by
  have := ref_CheckRec xa.toList r w hA hk
  simpa using this
theorem cm5A (xa xb : Array Value) (a b : Rc) (w : World) (hA : RcAt w xa.toList a) (hB : RcAt w xb.toList b) (hk : RcOK a) (hk2 : RcOK b) :
    Calls Tryz.prog 12 #[.agg xa, .agg xb] w fun e w' => e = .returned (.int .i64 (compareR a b)) ∧ Below w.heap.size w w' := by
  have := ref_CompareRec xa.toList xb.toList a b w hA hB hk hk2
  simpa using this
theorem tx5A (xa : Array Value) (r : Rc) (w : World) (hA : RcAt w xa.toList r) (hk : RcOK r) (hf : fewR r = true) (hc : checkR r = 0) :
    Calls Tryz.prog 17 #[.agg xa] w fun e w' => e = .returned (.string ⟨(textR r).toArray⟩) ∧ Below w.heap.size w w' := by
  have h1 := checkR_ok hc
  have h2 : fewD r.data = true := by simp only [fewR, Bool.and_eq_true] at hf; exact hf.2
  have := ref_RecText xa.toList r w hA hk (fewD_few hk.2.2 h2) h1.2 ⟨by omega, h1.1.2⟩ (textR_len hk hf hc)
  simpa using this

set_option maxRecDepth 100000 in
set_option maxHeartbeats 16000000 in
theorem law5_RecTwo {w : World} (csa : List Value) (a : Rc) (hA : RcArg w csa a) (csb : List Value) (b : Rc) (hB : RcArg w csb b) (hT : Tab w) (hZ : TabZ w) :
    Calls Tryz.prog 3 #[.agg csa.toArray, .agg csb.toArray] w fun e w' => e = .returned (.bool true) ∧ Below w.heap.size w w' := by
  have hsa := hA.rcAt.shape
  have hsb := hB.rcAt.shape
  obtain ⟨⟨p0, q0, k0⟩, ⟨p3, q3, k3⟩, ⟨p4, q4, k4⟩, ⟨p5, q5, k5⟩, ⟨p6, q6, k6⟩, e0⟩ := hsa
  obtain ⟨⟨r0, s0, t0⟩, ⟨r3, s3, t3⟩, ⟨r4, s4, t4⟩, ⟨r5, s5, t5⟩, ⟨r6, s6, t6⟩, e1⟩ := hsb
  simp only at e0 e1
  subst e0 e1
  obtain ⟨fw, hfw⟩ : ∃ fw, fewRs [a, b] = fw := ⟨_, rfl⟩
  have hRow : ∀ W, Below w.heap.size w W → ([[.slice p0 q0 k0, .int .u32 (a.ttl : Int), .int .i64 a.data.ty, .slice p3 q3 k3, .slice p4 q4 k4, .slice p5 q5 k5, .slice p6 q6 k6], [.slice r0 s0 t0, .int .u32 (b.ttl : Int), .int .i64 b.data.ty, .slice r3 s3 t3, .slice r4 s4 t4, .slice r5 s5 t5, .slice r6 s6 t6]] : List (List Value)).length = [a, b].length ∧ ∀ i (h1 : i < ([[.slice p0 q0 k0, .int .u32 (a.ttl : Int), .int .i64 a.data.ty, .slice p3 q3 k3, .slice p4 q4 k4, .slice p5 q5 k5, .slice p6 q6 k6], [.slice r0 s0 t0, .int .u32 (b.ttl : Int), .int .i64 b.data.ty, .slice r3 s3 t3, .slice r4 s4 t4, .slice r5 s5 t5, .slice r6 s6 t6]] : List (List Value)).length) (h2 : i < [a, b].length), RcArg W ([[.slice p0 q0 k0, .int .u32 (a.ttl : Int), .int .i64 a.data.ty, .slice p3 q3 k3, .slice p4 q4 k4, .slice p5 q5 k5, .slice p6 q6 k6], [.slice r0 s0 t0, .int .u32 (b.ttl : Int), .int .i64 b.data.ty, .slice r3 s3 t3, .slice r4 s4 t4, .slice r5 s5 t5, .slice r6 s6 t6]] : List (List Value))[i] [a, b][i] := fun W hb => by
    refine ⟨rfl, fun i h1 h2 => ?_⟩
    match i, h1 with
    | 0, _ => exact hA.below hb
    | 1, _ => exact hB.below hb
  have HRow := Lib.hid hRow
  have hX0 : TwB w (.slice p0 q0 k0) (.int .u32 (a.ttl : Int)) (.int .i64 a.data.ty) (.slice p3 q3 k3) (.slice p4 q4 k4) (.slice p5 q5 k5) (.slice p6 q6 k6) (.slice r0 s0 t0) (.int .u32 (b.ttl : Int)) (.int .i64 b.data.ty) (.slice r3 s3 t3) (.slice r4 s4 t4) (.slice r5 s5 t5) (.slice r6 s6 t6) ((w.alloc (.cells #[.slice p0 q0 k0, .int .u32 (a.ttl : Int), .int .i64 a.data.ty, .slice p3 q3 k3, .slice p4 q4 k4, .slice p5 q5 k5, .slice p6 q6 k6] 31)).alloc (.cells #[.slice r0 s0 t0, .int .u32 (b.ttl : Int), .int .i64 b.data.ty, .slice r3 s3 t3, .slice r4 s4 t4, .slice r5 s5 t5, .slice r6 s6 t6] 31)) := by
    refine ⟨(Below.heap_alloc _ _ _ (by simp)).trans (knew w _), ?_, ((Below.refl _ w).alloc (Nat.le_refl _) _).alloc (by simp) _⟩
    have := knew (w.alloc (.cells #[.slice p0 q0 k0, .int .u32 (a.ttl : Int), .int .i64 a.data.ty, .slice p3 q3 k3, .slice p4 q4 k4, .slice p5 q5 k5, .slice p6 q6 k6] 31)) (.cells #[.slice r0 s0 t0, .int .u32 (b.ttl : Int), .int .i64 b.data.ty, .slice r3 s3 t3, .slice r4 s4 t4, .slice r5 s5 t5, .slice r6 s6 t6] 31)
    rw [World.size_alloc] at this
    exact this
  have hkn := law5_known ((w.alloc (.cells #[.slice p0 q0 k0, .int .u32 (a.ttl : Int), .int .i64 a.data.ty, .slice p3 q3 k3, .slice p4 q4 k4, .slice p5 q5 k5, .slice p6 q6 k6] 31)).alloc (.cells #[.slice r0 s0 t0, .int .u32 (b.ttl : Int), .int .i64 b.data.ty, .slice r3 s3 t3, .slice r4 s4 t4, .slice r5 s5 t5, .slice r6 s6 t6] 31)) (hT.below hX0.below) (hZ.below hX0.below)
  have HX0 := Lib.hid hX0
  have HA := Lib.hid hA; have HB := Lib.hid hB; have HT := Lib.hid hT; have HZ := Lib.hid hZ; have HFW := Lib.hid hfw
  have KS := Lib.hid (fun (W W' : World) (h : TwS w (.slice p0 q0 k0) (.int .u32 (a.ttl : Int)) (.int .i64 a.data.ty) (.slice p3 q3 k3) (.slice p4 q4 k4) (.slice p5 q5 k5) (.slice p6 q6 k6) (.slice r0 s0 t0) (.int .u32 (b.ttl : Int)) (.int .i64 b.data.ty) (.slice r3 s3 t3) (.slice r4 s4 t4) (.slice r5 s5 t5) (.slice r6 s6 t6) W) (hb : Below W.heap.size W W') => (h.b.keep hb).ss)
  have KD := Lib.hid (fun (W : World) (h : TwS w (.slice p0 q0 k0) (.int .u32 (a.ttl : Int)) (.int .i64 a.data.ty) (.slice p3 q3 k3) (.slice p4 q4 k4) (.slice p5 q5 k5) (.slice p6 q6 k6) (.slice r0 s0 t0) (.int .u32 (b.ttl : Int)) (.int .i64 b.data.ty) (.slice r3 s3 t3) (.slice r4 s4 t4) (.slice r5 s5 t5) (.slice r6 s6 t6) W) => (h.b.keep (W' := W.drew) ⟨rfl, rfl, rfl, Nat.le_refl _, fun _ _ => rfl⟩).ss)
  clear hX0 hA hB hT hZ hfw hRow
  unfold TwS at KS KD
  go_enter Tryz.func3, Tryz.ntmps3
  go_wp2_with fail
  refine hkn.mono ?_
  rintro e w1 ⟨rfl, hb1⟩
  have hX1 := HX0.out.keep hb1
  have HX1 := Lib.hid hX1
  have hS1 := hX1.ss
  have hFew := law5_Few (.slice (some ⟨w1.heap.size, 0, none⟩) 2 2) [[.slice p0 q0 k0, .int .u32 (a.ttl : Int), .int .i64 a.data.ty, .slice p3 q3 k3, .slice p4 q4 k4, .slice p5 q5 k5, .slice p6 q6 k6], [.slice r0 s0 t0, .int .u32 (b.ttl : Int), .int .i64 b.data.ty, .slice r3 s3 t3, .slice r4 s4 t4, .slice r5 s5 t5, .slice r6 s6 t6]] [a, b] (w1.alloc (.cells #[.slice p0 q0 k0, .int .u32 (a.ttl : Int), .int .i64 a.data.ty, .slice p3 q3 k3, .slice p4 q4 k4, .slice p5 q5 k5, .slice p6 q6 k6, .slice r0 s0 t0, .int .u32 (b.ttl : Int), .int .i64 b.data.ty, .slice r3 s3 t3, .slice r4 s4 t4, .slice r5 s5 t5, .slice r6 s6 t6] 31)) (w1.alloc (.cells #[.slice p0 q0 k0, .int .u32 (a.ttl : Int), .int .i64 a.data.ty, .slice p3 q3 k3, .slice p4 q4 k4, .slice p5 q5 k5, .slice p6 q6 k6, .slice r0 s0 t0, .int .u32 (b.ttl : Int), .int .i64 b.data.ty, .slice r3 s3 t3, .slice r4 s4 t4, .slice r5 s5 t5, .slice r6 s6 t6] 31)) (slK_blk (css := [[.slice p0 q0 k0, .int .u32 (a.ttl : Int), .int .i64 a.data.ty, .slice p3 q3 k3, .slice p4 q4 k4, .slice p5 q5 k5, .slice p6 q6 k6], [.slice r0 s0 t0, .int .u32 (b.ttl : Int), .int .i64 b.data.ty, .slice r3 s3 t3, .slice r4 s4 t4, .slice r5 s5 t5, .slice r6 s6 t6]]) (knew w1 _)) (HRow.out _ (hX1.below.alloc hX1.below.size _)) (Below.refl _ _)
  rw [HFW.out] at hFew
  obtain ⟨c0, c1, c2, c3, c4, c5, c6, d0, d1, d2, d3, d4, d5, d6, -⟩ := hS1
  clear hkn hb1 HX0 hX1 HRow
  cases fw
  · go_wp2_with fail
    refine hFew.mono ?_
    rintro e w2 ⟨rfl, hb2⟩
    have HB2 := Lib.hid ((HX1.out.below.alloc HX1.out.below.size _).trans (hb2.mono (HX1.out.below.alloc HX1.out.below.size _).size))
    clear hb2
    go_wp2
    go_ret
    exact ⟨rfl, HB2.out⟩
  obtain ⟨hfa, hfb⟩ := fewRs_two HFW.out
  have hka := HA.out.ok hfa
  have hkb := HB.out.ok hfb
  have hna := fewR_names hfa
  have hnb := fewR_names hfb
  have HOFa := Lib.hid (fun (W : World) (h : TwS w (.slice p0 q0 k0) (.int .u32 (a.ttl : Int)) (.int .i64 a.data.ty) (.slice p3 q3 k3) (.slice p4 q4 k4) (.slice p5 q5 k5) (.slice p6 q6 k6) (.slice r0 s0 t0) (.int .u32 (b.ttl : Int)) (.int .i64 b.data.ty) (.slice r3 s3 t3) (.slice r4 s4 t4) (.slice r5 s5 t5) (.slice r6 s6 t6) W) => of5A _ a w W HA.out.rcAt h.b.below hna)
  have HOFb := Lib.hid (fun (W : World) (h : TwS w (.slice p0 q0 k0) (.int .u32 (a.ttl : Int)) (.int .i64 a.data.ty) (.slice p3 q3 k3) (.slice p4 q4 k4) (.slice p5 q5 k5) (.slice p6 q6 k6) (.slice r0 s0 t0) (.int .u32 (b.ttl : Int)) (.int .i64 b.data.ty) (.slice r3 s3 t3) (.slice r4 s4 t4) (.slice r5 s5 t5) (.slice r6 s6 t6) W) => of5A _ b w W HB.out.rcAt h.b.below hnb)
  have HCK := Lib.hid (fun (W : World) (h : TwS w (.slice p0 q0 k0) (.int .u32 (a.ttl : Int)) (.int .i64 a.data.ty) (.slice p3 q3 k3) (.slice p4 q4 k4) (.slice p5 q5 k5) (.slice p6 q6 k6) (.slice r0 s0 t0) (.int .u32 (b.ttl : Int)) (.int .i64 b.data.ty) (.slice r3 s3 t3) (.slice r4 s4 t4) (.slice r5 s5 t5) (.slice r6 s6 t6) W) => rec_Check _ a W (HA.out.rcAt.below h.b.below) hka)
  have HC1 := Lib.hid (fun (W : World) (h : TwS w (.slice p0 q0 k0) (.int .u32 (a.ttl : Int)) (.int .i64 a.data.ty) (.slice p3 q3 k3) (.slice p4 q4 k4) (.slice p5 q5 k5) (.slice p6 q6 k6) (.slice r0 s0 t0) (.int .u32 (b.ttl : Int)) (.int .i64 b.data.ty) (.slice r3 s3 t3) (.slice r4 s4 t4) (.slice r5 s5 t5) (.slice r6 s6 t6) W) => rec_Compare _ _ a b W (HA.out.rcAt.below h.b.below) (HB.out.rcAt.below h.b.below) hka hkb)
  have HC2 := Lib.hid (fun (W : World) (h : TwS w (.slice p0 q0 k0) (.int .u32 (a.ttl : Int)) (.int .i64 a.data.ty) (.slice p3 q3 k3) (.slice p4 q4 k4) (.slice p5 q5 k5) (.slice p6 q6 k6) (.slice r0 s0 t0) (.int .u32 (b.ttl : Int)) (.int .i64 b.data.ty) (.slice r3 s3 t3) (.slice r4 s4 t4) (.slice r5 s5 t5) (.slice r6 s6 t6) W) => rec_Compare _ _ b a W (HB.out.rcAt.below h.b.below) (HA.out.rcAt.below h.b.below) hkb hka)
  have HSM := Lib.hid (fun (W : World) (h : TwS w (.slice p0 q0 k0) (.int .u32 (a.ttl : Int)) (.int .i64 a.data.ty) (.slice p3 q3 k3) (.slice p4 q4 k4) (.slice p5 q5 k5) (.slice p6 q6 k6) (.slice r0 s0 t0) (.int .u32 (b.ttl : Int)) (.int .i64 b.data.ty) (.slice r3 s3 t3) (.slice r4 s4 t4) (.slice r5 s5 t5) (.slice r6 s6 t6) W) => rec_Same _ _ a b W (HA.out.rcAt.below h.b.below) (HB.out.rcAt.below h.b.below) hka hkb)
  have HTX := Lib.hid (fun (hc : checkR a = 0) (W : World) (h : TwS w (.slice p0 q0 k0) (.int .u32 (a.ttl : Int)) (.int .i64 a.data.ty) (.slice p3 q3 k3) (.slice p4 q4 k4) (.slice p5 q5 k5) (.slice p6 q6 k6) (.slice r0 s0 t0) (.int .u32 (b.ttl : Int)) (.int .i64 b.data.ty) (.slice r3 s3 t3) (.slice r4 s4 t4) (.slice r5 s5 t5) (.slice r6 s6 t6) W) => rec_Text _ a W (HA.out.rcAt.below h.b.below) hka (fewD_few hka.2.2 (by simp only [fewR, Bool.and_eq_true] at hfa; exact hfa.2)) (HT.out.below h.b.below) (HZ.out.below h.b.below) (textR_len hka hfa hc))
  have HRT := Lib.hid (fun (hc : checkR a = 0) (W : World) (xa : Array Value) (h : RcAt W xa.toList a) => tx5A xa a W h hka hfa hc)
  have HRC := Lib.hid (fun (W : World) (xa : Array Value) (h : RcAt W xa.toList a) => ck5A xa a W h hka)
  have HRM := Lib.hid (fun (W : World) (xa xb : Array Value) (h : RcAt W xa.toList a) (h2 : RcAt W xb.toList b) => cm5A xa xb a b W h h2 hka hkb)
  have HAN := Lib.hid (cR_anti a b)
  have HRG := Lib.hid (compareR_range a b)
  have HSR := Lib.hid (show sameR a b = (compareR a b == 0) from rfl)
  clear hfa hfb hka hkb hna hnb HA HB HT HZ HFW
  unfold TwS at HOFa HOFb HCK HC1 HC2 HSM HTX
  obtain ⟨e, he⟩ : ∃ e, checkR a = e := ⟨_, rfl⟩
  obtain ⟨c, hc⟩ : ∃ c, compareR a b = c := ⟨_, rfl⟩
  obtain ⟨cb, hcb⟩ : ∃ c, compareR b a = c := ⟨_, rfl⟩
  obtain ⟨sm, hsm⟩ : ∃ c, sameR a b = c := ⟨_, rfl⟩
  obtain ⟨tx, htx⟩ : ∃ tx : ByteArray, ⟨(textR a).toArray⟩ = tx := ⟨_, rfl⟩
  rw [he] at HCK HRC HTX HRT
  rw [hc] at HC1 HRM HAN HRG HSR
  rw [hcb] at HC2 HAN
  rw [hsm] at HSM HSR
  rw [htx] at HTX HRT
  clear he hc hcb hsm htx
  go_wp2_with fail
  refine hFew.mono ?_
  rintro e w2 ⟨rfl, hb2⟩
  have hX2 := HX1.out.keep ((Below.refl _ _).alloc (Nat.le_refl _) _ |>.trans (hb2.mono (by simp)))
  have hS2 := hX2.ss
  unfold TwS at hS2
  have hof := HOFa.out _ hS2
  have HS2 := Lib.hid hS2
  obtain ⟨e0, e1, e2, e3, e4, e5, e6, -⟩ := hS2
  clear hb2 hFew hX2 c0 c1 c2 c3 c4 c5 c6 d0 d1 d2 d3 d4 d5 d6 HX1
  go_wp2_with fail
  refine hof.mono ?_
  rintro e w3 ⟨x3, rfl, hr3, hb3⟩
  have HS3 := Lib.hid (KS.out _ _ HS2.out hb3)
  have hck := HRC.out _ _ hr3
  clear hb3 hof HS2 hr3 e0 e1 e2 e3 e4 e5 e6
  go_wp2_with fail
  refine hck.mono ?_
  rintro e w4 ⟨rfl, hb4⟩
  have hS4 := KS.out _ _ HS3.out hb4
  clear hb4 HS3 hck
  go_wp2_with fail
  go_region_held3 (fun W => W.cell? ⟨w.heap.size, 0, none⟩ = some (.slice p0 q0 k0) ∧ W.cell? ⟨w.heap.size, 1, none⟩ = some (.int .u32 (a.ttl : Int)) ∧ W.cell? ⟨w.heap.size, 2, none⟩ = some (.int .i64 a.data.ty) ∧ W.cell? ⟨w.heap.size, 3, none⟩ = some (.slice p3 q3 k3) ∧ W.cell? ⟨w.heap.size, 4, none⟩ = some (.slice p4 q4 k4) ∧ W.cell? ⟨w.heap.size, 5, none⟩ = some (.slice p5 q5 k5) ∧ W.cell? ⟨w.heap.size, 6, none⟩ = some (.slice p6 q6 k6) ∧ W.cell? ⟨w.heap.size + 1, 0, none⟩ = some (.slice r0 s0 t0) ∧ W.cell? ⟨w.heap.size + 1, 1, none⟩ = some (.int .u32 (b.ttl : Int)) ∧ W.cell? ⟨w.heap.size + 1, 2, none⟩ = some (.int .i64 b.data.ty) ∧ W.cell? ⟨w.heap.size + 1, 3, none⟩ = some (.slice r3 s3 t3) ∧ W.cell? ⟨w.heap.size + 1, 4, none⟩ = some (.slice r4 s4 t4) ∧ W.cell? ⟨w.heap.size + 1, 5, none⟩ = some (.slice r5 s5 t5) ∧ W.cell? ⟨w.heap.size + 1, 6, none⟩ = some (.slice r6 s6 t6) ∧ TwB w (.slice p0 q0 k0) (.int .u32 (a.ttl : Int)) (.int .i64 a.data.ty) (.slice p3 q3 k3) (.slice p4 q4 k4) (.slice p5 q5 k5) (.slice p6 q6 k6) (.slice r0 s0 t0) (.int .u32 (b.ttl : Int)) (.int .i64 b.data.ty) (.slice r3 s3 t3) (.slice r4 s4 t4) (.slice r5 s5 t5) (.slice r6 s6 t6) W)
    (first | with_reducible assumption | (with_reducible exact KD.out _ (by with_reducible assumption)))
    (first | ((with_reducible refine (HRM.out _ _ _ hr8 hr9).mono ?_); rintro e w10 ⟨rfl, hb10⟩; have hS10 := KS.out _ _ (by with_reducible assumption) hb10) | ((with_reducible refine (HOFb.out _ (by with_reducible assumption)).mono ?_); rintro e w9 ⟨x9, rfl, hr9, hb9⟩; have hr8 := hr8.below hb9; have hS9 := KS.out _ _ (by with_reducible assumption) hb9) | ((with_reducible refine (HOFa.out _ (by with_reducible assumption)).mono ?_); rintro e w8 ⟨x8, rfl, hr8, hb8⟩; have hS8 := KS.out _ _ (by with_reducible assumption) hb8))
  all_goals
    rename_i hSe
    have HSe := Lib.hid hSe
    clear hSe
    rcases HRG.out with hcv | hcv | hcv
    all_goals
      have hcbv := HAN.out
      have hsmv := HSR.out
      rw [hcv] at hcbv hsmv
      try simp only [Int.neg_neg, Int.neg_zero] at hcbv
      subst hcv hcbv hsmv
      have hw1 : IntKind.i64.wrap 1 = 1 := by decide
      have hw2 : IntKind.i64.wrap (-1) = -1 := by decide
      have hw3 : IntKind.i64.wrap 0 = 0 := by decide
      by_cases he0 : e = 0
      · subst he0
        have HTX2 := Lib.hid (HTX.out rfl)
        have HRT2 := Lib.hid (HRT.out rfl)
        clear HTX HRT
        have hS10 := HSe.out
        clear HSe
        go_wp2_with fail
        go_region_held3 (fun W => W.cell? ⟨w.heap.size, 0, none⟩ = some (.slice p0 q0 k0) ∧ W.cell? ⟨w.heap.size, 1, none⟩ = some (.int .u32 (a.ttl : Int)) ∧ W.cell? ⟨w.heap.size, 2, none⟩ = some (.int .i64 a.data.ty) ∧ W.cell? ⟨w.heap.size, 3, none⟩ = some (.slice p3 q3 k3) ∧ W.cell? ⟨w.heap.size, 4, none⟩ = some (.slice p4 q4 k4) ∧ W.cell? ⟨w.heap.size, 5, none⟩ = some (.slice p5 q5 k5) ∧ W.cell? ⟨w.heap.size, 6, none⟩ = some (.slice p6 q6 k6) ∧ W.cell? ⟨w.heap.size + 1, 0, none⟩ = some (.slice r0 s0 t0) ∧ W.cell? ⟨w.heap.size + 1, 1, none⟩ = some (.int .u32 (b.ttl : Int)) ∧ W.cell? ⟨w.heap.size + 1, 2, none⟩ = some (.int .i64 b.data.ty) ∧ W.cell? ⟨w.heap.size + 1, 3, none⟩ = some (.slice r3 s3 t3) ∧ W.cell? ⟨w.heap.size + 1, 4, none⟩ = some (.slice r4 s4 t4) ∧ W.cell? ⟨w.heap.size + 1, 5, none⟩ = some (.slice r5 s5 t5) ∧ W.cell? ⟨w.heap.size + 1, 6, none⟩ = some (.slice r6 s6 t6) ∧ TwB w (.slice p0 q0 k0) (.int .u32 (a.ttl : Int)) (.int .i64 a.data.ty) (.slice p3 q3 k3) (.slice p4 q4 k4) (.slice p5 q5 k5) (.slice p6 q6 k6) (.slice r0 s0 t0) (.int .u32 (b.ttl : Int)) (.int .i64 b.data.ty) (.slice r3 s3 t3) (.slice r4 s4 t4) (.slice r5 s5 t5) (.slice r6 s6 t6) W)
          (first | with_reducible assumption | (with_reducible exact KD.out _ (by with_reducible assumption)))
          (first | ((with_reducible refine (HCK.out _ (by with_reducible assumption)).mono ?_); rintro e w11 ⟨rfl, hb11⟩; have hS11 := KS.out _ _ (by with_reducible assumption) hb11) | ((with_reducible refine (HC1.out _ (by with_reducible assumption)).mono ?_); rintro e w12 ⟨rfl, hb12⟩; have hS12 := KS.out _ _ (by with_reducible assumption) hb12) | ((with_reducible refine (HC2.out _ (by with_reducible assumption)).mono ?_); rintro e w13 ⟨rfl, hb13⟩; have hS13 := KS.out _ _ (by with_reducible assumption) hb13) | ((with_reducible refine (HSM.out _ (by with_reducible assumption)).mono ?_); rintro e w14 ⟨rfl, hb14⟩; have hS14 := KS.out _ _ (by with_reducible assumption) hb14) | ((with_reducible refine (HTX2.out _ (by with_reducible assumption)).mono ?_); rintro e w15 ⟨rfl, hb15⟩; have hS15 := KS.out _ _ (by with_reducible assumption) hb15) | ((with_reducible refine (HOFa.out _ (by with_reducible assumption)).mono ?_); rintro e w16 ⟨x16, rfl, hr16, hb16⟩; have hS16 := KS.out _ _ (by with_reducible assumption) hb16) | ((with_reducible refine (HRT2.out _ _ hr16).mono ?_); rintro e w17 ⟨rfl, hb17⟩; have hS17 := KS.out _ _ (by with_reducible assumption) hb17))
        all_goals
          rename_i hSf
          go_wp2_with fail
          go_ret
          exact ⟨rfl, hSf.2.2.2.2.2.2.2.2.2.2.2.2.2.2.below⟩
      · have hez : (e == 0) = false := by simpa using he0
        have hen : (e != 0) = true := by simpa using he0
        clear HTX HRT HRC he0
        have hX10 := HSe.out.2.2.2.2.2.2.2.2.2.2.2.2.2.2
        have hcl : (fun W => TwB w (.slice p0 q0 k0) (.int .u32 (a.ttl : Int)) (.int .i64 a.data.ty) (.slice p3 q3 k3) (.slice p4 q4 k4) (.slice p5 q5 k5) (.slice p6 q6 k6) (.slice r0 s0 t0) (.int .u32 (b.ttl : Int)) (.int .i64 b.data.ty) (.slice r3 s3 t3) (.slice r4 s4 t4) (.slice r5 s5 t5) (.slice r6 s6 t6) W) w10.drew := hX10.keep (W' := w10.drew) ⟨rfl, rfl, rfl, Nat.le_refl _, fun _ _ => rfl⟩
        have hne : Nonempty (WIn (fun W => TwB w (.slice p0 q0 k0) (.int .u32 (a.ttl : Int)) (.int .i64 a.data.ty) (.slice p3 q3 k3) (.slice p4 q4 k4) (.slice p5 q5 k5) (.slice p6 q6 k6) (.slice r0 s0 t0) (.int .u32 (b.ttl : Int)) (.int .i64 b.data.ty) (.slice r3 s3 t3) (.slice r4 s4 t4) (.slice r5 s5 t5) (.slice r6 s6 t6) W)) := ⟨⟨_, hcl⟩⟩
        have f0 := fun p : WIn (fun W => TwB w (.slice p0 q0 k0) (.int .u32 (a.ttl : Int)) (.int .i64 a.data.ty) (.slice p3 q3 k3) (.slice p4 q4 k4) (.slice p5 q5 k5) (.slice p6 q6 k6) (.slice r0 s0 t0) (.int .u32 (b.ttl : Int)) (.int .i64 b.data.ty) (.slice r3 s3 t3) (.slice r4 s4 t4) (.slice r5 s5 t5) (.slice r6 s6 t6) W) => p.ok.ss
        unfold TwS at f0
        have g0 := fun p => (f0 p).1; have g1 := fun p => (f0 p).2.1; have g2 := fun p => (f0 p).2.2.1; have g3 := fun p => (f0 p).2.2.2.1; have g4 := fun p => (f0 p).2.2.2.2.1; have g5 := fun p => (f0 p).2.2.2.2.2.1; have g6 := fun p => (f0 p).2.2.2.2.2.2.1
        have j0 := fun p => (f0 p).2.2.2.2.2.2.2.1; have j1 := fun p => (f0 p).2.2.2.2.2.2.2.2.1; have j2 := fun p => (f0 p).2.2.2.2.2.2.2.2.2.1; have j3 := fun p => (f0 p).2.2.2.2.2.2.2.2.2.2.1; have j4 := fun p => (f0 p).2.2.2.2.2.2.2.2.2.2.2.1; have j5 := fun p => (f0 p).2.2.2.2.2.2.2.2.2.2.2.2.1; have j6 := fun p => (f0 p).2.2.2.2.2.2.2.2.2.2.2.2.2.1
        have qck := fun p : WIn (fun W => TwB w (.slice p0 q0 k0) (.int .u32 (a.ttl : Int)) (.int .i64 a.data.ty) (.slice p3 q3 k3) (.slice p4 q4 k4) (.slice p5 q5 k5) (.slice p6 q6 k6) (.slice r0 s0 t0) (.int .u32 (b.ttl : Int)) (.int .i64 b.data.ty) (.slice r3 s3 t3) (.slice r4 s4 t4) (.slice r5 s5 t5) (.slice r6 s6 t6) W) => Calls.cls (C := fun W => TwB w (.slice p0 q0 k0) (.int .u32 (a.ttl : Int)) (.int .i64 a.data.ty) (.slice p3 q3 k3) (.slice p4 q4 k4) (.slice p5 q5 k5) (.slice p6 q6 k6) (.slice r0 s0 t0) (.int .u32 (b.ttl : Int)) (.int .i64 b.data.ty) (.slice r3 s3 t3) (.slice r4 s4 t4) (.slice r5 s5 t5) (.slice r6 s6 t6) W) ((HCK.out p.w (f0 p)).mono fun _ _ ⟨hq, hb⟩ => ⟨hq, p.ok.keep hb⟩)
        have qc1 := fun p : WIn (fun W => TwB w (.slice p0 q0 k0) (.int .u32 (a.ttl : Int)) (.int .i64 a.data.ty) (.slice p3 q3 k3) (.slice p4 q4 k4) (.slice p5 q5 k5) (.slice p6 q6 k6) (.slice r0 s0 t0) (.int .u32 (b.ttl : Int)) (.int .i64 b.data.ty) (.slice r3 s3 t3) (.slice r4 s4 t4) (.slice r5 s5 t5) (.slice r6 s6 t6) W) => Calls.cls (C := fun W => TwB w (.slice p0 q0 k0) (.int .u32 (a.ttl : Int)) (.int .i64 a.data.ty) (.slice p3 q3 k3) (.slice p4 q4 k4) (.slice p5 q5 k5) (.slice p6 q6 k6) (.slice r0 s0 t0) (.int .u32 (b.ttl : Int)) (.int .i64 b.data.ty) (.slice r3 s3 t3) (.slice r4 s4 t4) (.slice r5 s5 t5) (.slice r6 s6 t6) W) ((HC1.out p.w (f0 p)).mono fun _ _ ⟨hq, hb⟩ => ⟨hq, p.ok.keep hb⟩)
        have qc2 := fun p : WIn (fun W => TwB w (.slice p0 q0 k0) (.int .u32 (a.ttl : Int)) (.int .i64 a.data.ty) (.slice p3 q3 k3) (.slice p4 q4 k4) (.slice p5 q5 k5) (.slice p6 q6 k6) (.slice r0 s0 t0) (.int .u32 (b.ttl : Int)) (.int .i64 b.data.ty) (.slice r3 s3 t3) (.slice r4 s4 t4) (.slice r5 s5 t5) (.slice r6 s6 t6) W) => Calls.cls (C := fun W => TwB w (.slice p0 q0 k0) (.int .u32 (a.ttl : Int)) (.int .i64 a.data.ty) (.slice p3 q3 k3) (.slice p4 q4 k4) (.slice p5 q5 k5) (.slice p6 q6 k6) (.slice r0 s0 t0) (.int .u32 (b.ttl : Int)) (.int .i64 b.data.ty) (.slice r3 s3 t3) (.slice r4 s4 t4) (.slice r5 s5 t5) (.slice r6 s6 t6) W) ((HC2.out p.w (f0 p)).mono fun _ _ ⟨hq, hb⟩ => ⟨hq, p.ok.keep hb⟩)
        have qsm := fun p : WIn (fun W => TwB w (.slice p0 q0 k0) (.int .u32 (a.ttl : Int)) (.int .i64 a.data.ty) (.slice p3 q3 k3) (.slice p4 q4 k4) (.slice p5 q5 k5) (.slice p6 q6 k6) (.slice r0 s0 t0) (.int .u32 (b.ttl : Int)) (.int .i64 b.data.ty) (.slice r3 s3 t3) (.slice r4 s4 t4) (.slice r5 s5 t5) (.slice r6 s6 t6) W) => Calls.cls (C := fun W => TwB w (.slice p0 q0 k0) (.int .u32 (a.ttl : Int)) (.int .i64 a.data.ty) (.slice p3 q3 k3) (.slice p4 q4 k4) (.slice p5 q5 k5) (.slice p6 q6 k6) (.slice r0 s0 t0) (.int .u32 (b.ttl : Int)) (.int .i64 b.data.ty) (.slice r3 s3 t3) (.slice r4 s4 t4) (.slice r5 s5 t5) (.slice r6 s6 t6) W) ((HSM.out p.w (f0 p)).mono fun _ _ ⟨hq, hb⟩ => ⟨hq, p.ok.keep hb⟩)
        clear f0 HSe HCK HC1 HC2 HSM HOFa HOFb KS KD hX10
        go_wp2_with fail
        refine wp_region_cls (fun W => TwB w (.slice p0 q0 k0) (.int .u32 (a.ttl : Int)) (.int .i64 a.data.ty) (.slice p3 q3 k3) (.slice p4 q4 k4) (.slice p5 q5 k5) (.slice p6 q6 k6) (.slice r0 s0 t0) (.int .u32 (b.ttl : Int)) (.int .i64 b.data.ty) (.slice r3 s3 t3) (.slice r4 s4 t4) (.slice r5 s5 t5) (.slice r6 s6 t6) W) follows_mixed (by kernel_rfl) hcl ?_
        repeat (go_big_quiet_step (first | (with_reducible exact qck _) | (with_reducible exact qc1 _) | (with_reducible exact qc2 _) | (with_reducible exact qsm _)))
        refine wpQuiet_nil ?_
        rintro _ ⟨p, rfl⟩
        have HP := Lib.hid p.ok
        clear g0 g1 g2 g3 g4 g5 g6 j0 j1 j2 j3 j4 j5 j6 qck qc1 qc2 qsm
        go_wp2_with fail
        go_ret
        exact ⟨rfl, HP.out.below⟩
end Go.Proofs.YtfcdajldpnomfaaGreatDoor

