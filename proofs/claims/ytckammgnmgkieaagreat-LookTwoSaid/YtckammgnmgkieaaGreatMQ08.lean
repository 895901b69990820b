/-
  look.pointing, look.above, look.downward.
-/
import Derived.Test.YtckammgnmgkieaaGreatMQ37
import Derived.Test.YtckammgnmgkieaaGreatMQ10
import Derived.Test.YtckammgnmgkieaaGreatMQ31
import Derived.Test.YtckammgnmgkieaaGreatMQ04
import Derived.Test.YtckammgnmgkieaaGreatMQ16
import Derived.Test.YtckammgnmgkieaaGreatMQ21
import Derived.Test.YtckammgnmgkieaaGreatMQ20
import Derived.Test.YtckammgnmgkieaaGreatMQ35
import Derived.Deep.RegionHeld3
import Derived.Test.YtckammgnmgkieaaGreatMQ05
import Derived.Test.YtckammgnmgkieaaGreatMQ28
import Derived.Test.YtckammgnmgkieaaGreatMQ30
import Derived.Test.YtckammgnmgkieaaGreatMQ41
import Derived.Test.YtckammgnmgkieaaGreatMQ19
import Derived.IntWalk
import Derived.Deep.CutBlock
import Derived.Deep.DeepCutAuto
import Derived.Test.YtckammgnmgkieaaGreatMQ36
namespace Go.Proofs.YtckammgnmgkieaaGreat
set_option maxRecDepth 20000
open Go.RowKit Go.Shelf
set_option maxRecDepth 20000
set_option linter.unusedVariables false
set_option linter.unusedSimpArgs false
theorem pointD_nil {s : St} (h : s.data.length = 0) : pointD s = false := by
  unfold pointD
  rw [List.eq_nil_of_length_eq_zero h]
theorem pointD_first {s : St} (h : 0 < s.data.length) : pointD s = decide (0 < s.data[0].names.length) := by
  unfold pointD
  obtain ⟨d, r, e⟩ : ∃ d r, s.data = d :: r := by
    cases hs : s.data with
    | nil => rw [hs] at h; cases h
    | cons d r => exact ⟨d, r, rfl⟩
  simp only [e, List.getElem_cons_zero]
  cases d.names <;> simp
set_option maxRecDepth 100000 in
set_option maxHeartbeats 8000000 in
theorem look_pointing (cs : List Value) (s : St) (w : World) (h : SetR w cs s) :
    Calls Tryz.prog 93 #[.agg cs.toArray] w fun e w' => e = .returned (.bool (pointD s)) ∧ Below w.heap.size w w' := by
  obtain ⟨⟨p0, q0, k0⟩, ⟨p3, q3, k3⟩, rfl⟩ := h.shape
  obtain ⟨ds, hA, hR, -⟩ := h.dts (x0 := (p0, q0, k0)) (x3 := (p3, q3, k3))
  have hc : s.data.length ≤ k3 := by
    obtain ⟨a', c', e, h1, _⟩ := id hA
    injection e with _ _ e3
    rw [hR.1] at h1; have e4 : k3 = c' := e3; omega
  have hz := @pointD_nil s
  have hf := @pointD_first s
  have HB0 := Lib.hid ((Below.refl w.heap.size w).alloc (Nat.le_refl _) (.cells #[.slice p0 q0 k0, .int .i64 s.ty, .int .u32 (s.ttl : Int), .slice p3 s.data.length k3] 38))
  by_cases h0 : s.data.length = 0
  · rw [hz h0]
    rw [h0] at HB0 ⊢
    clear hz hf hA hR hc h
    go_enter Tryz.func93, Tryz.ntmps93
    go_wp2
    go_ret
    exact ⟨rfl, HB0.out⟩
  · have hp : 0 < s.data.length := by omega
    rw [hf hp]
    have hd1 : 0 < ds.length := by rw [hR.1]; exact hp
    obtain ⟨b, off, rfl, hb, hel⟩ := hA.elem5 hR.ck hd1
    have hd := (hR.2 0 hd1 hp).2
    obtain ⟨d, hdd⟩ : ∃ d, s.data[0] = d := ⟨_, rfl⟩
    rw [hdd] at hd ⊢
    obtain ⟨an, cn, ⟨p4, q4, r4⟩, ⟨p5, q5, r5⟩, ⟨p6, q6, r6⟩, vs, e0, s1, sl, hcn, s2⟩ := dt_shape2 hd
    simp only at e0
    obtain ⟨c0', c1, c2, c3, c4⟩ := hel 0 hd1 _ _ _ _ _ e0 _ HB0.out
    simp only [Nat.zero_mul, Nat.add_zero] at c0' c1 c2 c3 c4
    obtain ⟨n, hn⟩ : ∃ n, s.data.length = n := ⟨_, rfl⟩
    obtain ⟨m, hm⟩ : ∃ m, d.names.length = m := ⟨_, rfl⟩
    rw [hn] at hp hc HB0 c0' c1 c2 c3 c4 ⊢
    rw [hm] at c1 ⊢
    have hpz : (0 : Int) < (n : Int) := by omega
    clear hz hf hA hR h hd e0 s1 sl s2 hel hd1 hn
    generalize (s.ttl : Int) = tt at *
    by_cases h1 : 0 < m
    · have h1z : (0 : Int) < (m : Int) := by omega
      rw [decide_eq_true h1]
      go_enter Tryz.func93, Tryz.ntmps93
      go_wp2
      go_ret
      exact ⟨rfl, HB0.out⟩
    · have h1z : ¬ (0 : Int) < (m : Int) := by omega
      rw [decide_eq_false h1]
      go_enter Tryz.func93, Tryz.ntmps93
      go_wp2
      go_ret
      exact ⟨rfl, HB0.out⟩
end Go.Proofs.YtckammgnmgkieaaGreat

/-
  law5.Of: a record as the document's.
-/
namespace Go.Proofs.YtckammgnmgkieaaGreat
set_option maxRecDepth 20000
open Go.RowKit Go.Shelf
set_option maxRecDepth 20000
set_option linter.unusedVariables false
set_option linter.unusedSimpArgs false

def OfR (w0 W : World) (base : Nat) (cs : List Value) (r : Rc) : Prop :=
  ∃ vo vn vu vt vr, ∃ ss : List SlV, cs = [vo, .int .u32 (r.ttl : Int), .int .i64 r.data.ty, vn, vu, vt, vr] ∧ NmAt w0 vo r.owner ∧ OwnG 23 slEnc W base vn ss ∧ ss.length = r.data.names.length ∧
    (∀ j (h1 : j < ss.length) (h2 : j < r.data.names.length), NmAt w0 (slEnc ss[j]) r.data.names[j]) ∧ SlAt w0 vu (r.data.nums.map u32V) ∧ NmAt w0 vt r.data.texts ∧ SlAt w0 vr (r.data.raw.map bv)
theorem OfR.rcAt {w0 W : World} {base : Nat} {cs : List Value} {r : Rc} (h : OfR w0 W base cs r) (hb : Below w0.heap.size w0 W) : RcAt W cs r := by
  obtain ⟨vo, vn, vu, vt, vr, ss, e, h1, h2, h3, h4, h5, h6, h7⟩ := h
  exact ⟨vo, vn, vu, vt, vr, e, h1.below hb, _, _, _, _, rfl, ⟨ss.map slEnc, SlAt.of_own h2, by rw [List.length_map]; exact h3, fun j hj => by rw [List.getElem_map]; exact (h4 j (by simpa using hj) (by rw [List.length_map] at hj; omega)).below hb⟩, h5.below hb, h6.below hb, h7.below hb⟩
theorem OfR.below {w0 W W' : World} {base : Nat} {cs : List Value} {r : Rc} (h : OfR w0 W base cs r) (hb : Below W.heap.size W W') : OfR w0 W' base cs r := by
  obtain ⟨vo, vn, vu, vt, vr, ss, e, h1, h2, h3⟩ := h
  exact ⟨vo, vn, vu, vt, vr, ss, e, h1, h2.below hb, h3⟩
theorem OfR.weaken {w0 W : World} {base b2 : Nat} {cs : List Value} {r : Rc} (h : OfR w0 W base cs r) (hb : b2 ≤ base) : OfR w0 W b2 cs r := by
  obtain ⟨vo, vn, vu, vt, vr, ss, e, h1, h2, h3⟩ := h
  exact ⟨vo, vn, vu, vt, vr, ss, e, h1, h2.weaken hb, h3⟩
theorem OfR.keptB {w0 W : World} {base : Nat} {cs : List Value} {r : Rc} (h : OfR w0 W base cs r) {B : Nat} {xs : Array Value} {T : TypeId} (hB : W.heap[B]? = some (.cells xs T)) (hT : T ≠ 23) (j : Nat) (u : Value) : OfR w0 (W.setCell ⟨B, j, none⟩ u) base cs r := by
  obtain ⟨vo, vn, vu, vt, vr, ss, e, h1, h2, h3⟩ := h
  exact ⟨vo, vn, vu, vt, vr, ss, e, h1, h2.keptB hB hT j u, h3⟩
theorem OfR.grown {w0 W W' : World} {base base' k : Nat} {T : TypeId} {cs : List Value} {r : Rc} {v' : Value} {yss : List (List Value)} (h : OfR w0 W base cs r) (h' : OwnC k T W base' v' yss) (hT : 23 ≠ T) (hg : W.grownBy W' v'.ownBlock) : OfR w0 W' base cs r := by
  obtain ⟨vo, vn, vu, vt, vr, ss, e, h1, h2, h3⟩ := h
  exact ⟨vo, vn, vu, vt, vr, ss, e, h1, h2.kept_c h' hT hg, h3⟩
theorem results_ref {fn : Func} {t : Tmp} (h : fn.results = #[.cell t 109]) (tmps : Array Value) (W : World) {a : Nat} {x0 x1 x2 x3 x4 x5 x6 : Value}
    (ht : tmps.getD t undef = .pointer (some ⟨a, 0, none⟩)) (hb : W.heap[a]? = some (.cells #[x0, x1, x2, x3, x4, x5, x6] 109)) : (results fn tmps).run Tryz.prog W = .ok (.agg #[x0, x1, x2, x3, x4, x5, x6]) W := by
  have ht' : tmps[t]?.getD undef = .pointer (some ⟨a, 0, none⟩) := by rw [← ht]; simp
  have hu : ∀ w, Sem.run Tryz.prog (underlying 109) w = .ok _ w := run_underlying Tryz.underlying109
  have y0 := kcell hb 0 _ rfl; have y1 := kcell hb 1 _ rfl; have y2 := kcell hb 2 _ rfl; have y3 := kcell hb 3 _ rfl; have y4 := kcell hb 4 _ rfl; have y5 := kcell hb 5 _ rfl; have y6 := kcell hb 6 _ rfl
  simp [results, h, ht', loadVar, asAddr, go_sem, hu, y0, y1, y2, y3, y4, y5, y6, isAgg]

structure OfB (w : World) (v0 v1 v2 v3 v4 v5 v6 : Value) (W : World) : Prop where
  p : W.heap[w.heap.size]? = some (.cells #[v0, v1, v2, v3, v4, v5, v6] 103)
  q : ∃ cs, W.heap[w.heap.size + 1]? = some (.cells cs 109) ∧ cs.size = 7
  below : Below w.heap.size w W
theorem OfB.keep {w W W' : World} {v0 v1 v2 v3 v4 v5 v6 : Value} (h : OfB w v0 v1 v2 v3 v4 v5 v6 W) (hb : Below W.heap.size W W') : OfB w v0 v1 v2 v3 v4 v5 v6 W' := by
  obtain ⟨cs, hq, hs⟩ := h.q
  exact ⟨(hb.block _ (kblock_lt h.p)).trans h.p, ⟨cs, (hb.block _ (kblock_lt hq)).trans hq, hs⟩, h.below.trans (hb.mono h.below.size)⟩
theorem OfB.put {w W : World} {v0 v1 v2 v3 v4 v5 v6 : Value} (h : OfB w v0 v1 v2 v3 v4 v5 v6 W) (j : Nat) (u : Value) : OfB w v0 v1 v2 v3 v4 v5 v6 (W.setCell ⟨w.heap.size + 1, j, none⟩ u) := by
  obtain ⟨cs, hq, hs⟩ := h.q
  exact ⟨((grownBy_set W _ j u).block _ (kblock_lt h.p) (by simp)).trans h.p, ⟨_, block_set hq j u, by simp [hs]⟩, h.below.setCell (p := ⟨w.heap.size + 1, j, none⟩) (by simp) u⟩
def OfSS (w : World) (v0 v1 v2 v3 v4 v5 v6 : Value) (W : World) : Prop :=
  W.cell? ⟨w.heap.size, 0, none⟩ = some v0 ∧ W.cell? ⟨w.heap.size, 1, none⟩ = some v1 ∧ W.cell? ⟨w.heap.size, 2, none⟩ = some v2 ∧ W.cell? ⟨w.heap.size, 3, none⟩ = some v3 ∧ W.cell? ⟨w.heap.size, 4, none⟩ = some v4 ∧ W.cell? ⟨w.heap.size, 5, none⟩ = some v5 ∧ W.cell? ⟨w.heap.size, 6, none⟩ = some v6 ∧ OfB w v0 v1 v2 v3 v4 v5 v6 W
theorem OfB.ss {w W : World} {v0 v1 v2 v3 v4 v5 v6 : Value} (h : OfB w v0 v1 v2 v3 v4 v5 v6 W) : OfSS w v0 v1 v2 v3 v4 v5 v6 W :=
  ⟨kcell h.p 0 _ rfl, kcell h.p 1 _ rfl, kcell h.p 2 _ rfl, kcell h.p 3 _ rfl, kcell h.p 4 _ rfl, kcell h.p 5 _ rfl, kcell h.p 6 _ rfl, h⟩
theorem OfSS.b {w W : World} {v0 v1 v2 v3 v4 v5 v6 : Value} (h : OfSS w v0 v1 v2 v3 v4 v5 v6 W) : OfB w v0 v1 v2 v3 v4 v5 v6 W := h.2.2.2.2.2.2.2

def Of5Post (w0 w : World) (r : Rc) (e : Ending) (w' : World) : Prop := ∃ cs, e = .returned (.agg cs.toArray) ∧ OfR w0 w' w.heap.size cs r ∧ Below w.heap.size w w'
set_option maxRecDepth 100000 in
set_option maxHeartbeats 16000000 in
theorem law5_Of (w0 : World) (cs : List Value) (r : Rc) (w : World) (hA : RcAt w0 cs r) (hwz : Below w0.heap.size w0 w) (hk : r.data.names.length ≤ 1048576) :
    Calls Tryz.prog 60 #[.agg cs.toArray] w (Of5Post w0 w r) := by
  have hsh := hA.shape
  obtain ⟨vo, vn, vu, vt, vr, rfl, a1, a2⟩ := hA
  have hOf := fun W (hb : Below w.heap.size w W) => law4_OfS w0 _ r.data W a2 (hwz.trans (hb.mono hwz.size)) hk
  have HA1 := Lib.hid a1
  obtain ⟨⟨p0, q0, k0⟩, ⟨p3, q3, k3⟩, ⟨p4, q4, k4⟩, ⟨p5, q5, k5⟩, ⟨p6, q6, k6⟩, e0⟩ := hsh
  simp only [List.cons.injEq, and_true, true_and] at e0
  obtain ⟨rfl, rfl, rfl, rfl, rfl⟩ := e0
  have hX0 : OfB w (.slice p0 q0 k0) (.int .u32 (r.ttl : Int)) (.int .i64 r.data.ty) (.slice p3 q3 k3) (.slice p4 q4 k4) (.slice p5 q5 k5) (.slice p6 q6 k6) ((w.alloc (.cells #[.slice p0 q0 k0, .int .u32 (r.ttl : Int), .int .i64 r.data.ty, .slice p3 q3 k3, .slice p4 q4 k4, .slice p5 q5 k5, .slice p6 q6 k6] 103)).alloc (.cells #[.slice none 0 0, .int .u32 0, .int .i64 0, .slice none 0 0, .slice none 0 0, .slice none 0 0, .slice none 0 0] 109)) := by
    refine ⟨(Below.heap_alloc _ _ _ (by simp)).trans (knew w _), ⟨#[.slice none 0 0, .int .u32 0, .int .i64 0, .slice none 0 0, .slice none 0 0, .slice none 0 0, .slice none 0 0], ?_, rfl⟩, ((Below.refl _ w).alloc (Nat.le_refl _) _).alloc (by simp) _⟩
    have := knew (w.alloc (.cells #[.slice p0 q0 k0, .int .u32 (r.ttl : Int), .int .i64 r.data.ty, .slice p3 q3 k3, .slice p4 q4 k4, .slice p5 q5 k5, .slice p6 q6 k6] 103)) (.cells #[.slice none 0 0, .int .u32 0, .int .i64 0, .slice none 0 0, .slice none 0 0, .slice none 0 0, .slice none 0 0] 109)
    rw [World.size_alloc] at this
    exact this
  have hS0 := hX0.ss
  have HOF := Lib.hid (fun (W : World) (h : OfSS w (.slice p0 q0 k0) (.int .u32 (r.ttl : Int)) (.int .i64 r.data.ty) (.slice p3 q3 k3) (.slice p4 q4 k4) (.slice p5 q5 k5) (.slice p6 q6 k6) W) => hOf W h.b.below)
  have KS := Lib.hid (fun (W W' : World) (h : OfSS w (.slice p0 q0 k0) (.int .u32 (r.ttl : Int)) (.int .i64 r.data.ty) (.slice p3 q3 k3) (.slice p4 q4 k4) (.slice p5 q5 k5) (.slice p6 q6 k6) W) (hb : Below W.heap.size W W') => (h.b.keep hb).ss)
  have KD := Lib.hid (fun (W : World) (h : OfSS w (.slice p0 q0 k0) (.int .u32 (r.ttl : Int)) (.int .i64 r.data.ty) (.slice p3 q3 k3) (.slice p4 q4 k4) (.slice p5 q5 k5) (.slice p6 q6 k6) W) => (h.b.keep (W' := W.drew) ⟨rfl, rfl, rfl, Nat.le_refl _, fun _ _ => rfl⟩).ss)
  have KP := Lib.hid (fun (W : World) (y0 y1 y2 y3 y4 y5 y6 : Value) (h : OfSS w (.slice p0 q0 k0) (.int .u32 (r.ttl : Int)) (.int .i64 r.data.ty) (.slice p3 q3 k3) (.slice p4 q4 k4) (.slice p5 q5 k5) (.slice p6 q6 k6) W) => (((((((h.b.put 0 y0).put 1 y1).put 2 y2).put 3 y3).put 4 y4).put 5 y5).put 6 y6).ss)
  unfold OfSS at hS0 HOF KS KD KP
  have HS0 := Lib.hid hS0
  clear hOf hX0 a1 a2 hk hwz hS0
  go_enter Tryz.func60, Tryz.ntmps60
  go_wp2_with fail
  generalize ((w.alloc (.cells #[.slice p0 q0 k0, .int .u32 (r.ttl : Int), .int .i64 r.data.ty, .slice p3 q3 k3, .slice p4 q4 k4, .slice p5 q5 k5, .slice p6 q6 k6] 103)).alloc (.cells #[.slice none 0 0, .int .u32 0, .int .i64 0, .slice none 0 0, .slice none 0 0, .slice none 0 0, .slice none 0 0] 109)) = W0 at *
  have hS0 := HS0.out
  go_region_held3 (fun W => W.cell? ⟨w.heap.size, 0, none⟩ = some (.slice p0 q0 k0) ∧ W.cell? ⟨w.heap.size, 1, none⟩ = some (.int .u32 (r.ttl : Int)) ∧ W.cell? ⟨w.heap.size, 2, none⟩ = some (.int .i64 r.data.ty) ∧ W.cell? ⟨w.heap.size, 3, none⟩ = some (.slice p3 q3 k3) ∧ W.cell? ⟨w.heap.size, 4, none⟩ = some (.slice p4 q4 k4) ∧ W.cell? ⟨w.heap.size, 5, none⟩ = some (.slice p5 q5 k5) ∧ W.cell? ⟨w.heap.size, 6, none⟩ = some (.slice p6 q6 k6) ∧ OfB w (.slice p0 q0 k0) (.int .u32 (r.ttl : Int)) (.int .i64 r.data.ty) (.slice p3 q3 k3) (.slice p4 q4 k4) (.slice p5 q5 k5) (.slice p6 q6 k6) W)
    (first | with_reducible assumption | (with_reducible exact KD.out _ (by with_reducible assumption)) | (with_reducible exact KP.out _ _ _ _ _ _ _ _ (by with_reducible assumption)))
    (first | ((with_reducible refine (HOF.out _ (by with_reducible assumption)).mono ?_); rintro e w7 ⟨_, vn', _, _, _, ss, e5, rfl, h1, h2, h3, h4, h5, h6, hb7⟩; injection e5 with e5; injection e5 with e5; simp only [List.cons.injEq, and_true, true_and] at e5; obtain ⟨rfl, rfl, rfl, rfl⟩ := e5; obtain ⟨a9, c9, rfl⟩ := h1.shape; have hS2 := KS.out _ _ (by with_reducible assumption) hb7; have hq7 := hS2.2.2.2.2.2.2.2.q; obtain ⟨cs7, hq7, hs7⟩ := hq7; obtain ⟨y0, y1, y2, y3, y4, y5, y6, rfl⟩ := arr7 hs7; have fz0 := kfrozen hq7 0; have cl0 := kcell hq7 0 _ rfl; have fz1 := kfrozen hq7 1; have cl1 := kcell hq7 1 _ rfl; have fz2 := kfrozen hq7 2; have cl2 := kcell hq7 2 _ rfl; have fz3 := kfrozen hq7 3; have cl3 := kcell hq7 3 _ rfl; have fz4 := kfrozen hq7 4; have cl4 := kcell hq7 4 _ rfl; have fz5 := kfrozen hq7 5; have cl5 := kcell hq7 5 _ rfl; have fz6 := kfrozen hq7 6; have cl6 := kcell hq7 6 _ rfl; have HH := Lib.hid (And.intro h1 (And.intro h2 (And.intro h3 (And.intro h4 (And.intro h5 h6))))); clear h1 h2 h3 h4 h5 h6))
  all_goals
    go_wp2_with fail
    have HS7 := hS2.2.2.2.2.2.2.2
    have hsz : w.heap.size ≤ W0.heap.size := hS0.2.2.2.2.2.2.2.below.size
    obtain ⟨h1, h2, h3, h4, h5, h6⟩ := HH.out
    have hof : OfR w0 w7 w.heap.size [.slice p0 q0 k0, .int .u32 (r.ttl : Int), .int .i64 r.data.ty, .slice a9 ss.length c9, .slice p4 q4 k4, .slice p5 q5 k5, .slice p6 q6 k6] r := ⟨_, _, _, _, _, ss, rfl, HA1.out, h1.weaken hsz, h2, h3, h4, h5, h6⟩
    have hb_0 := block_set hq7 0 (.slice p0 q0 k0)
    have ho_0 := hof.keptB hq7 (by decide) 0 (.slice p0 q0 k0)
    have hb_1 := block_set hb_0 1 (.int .u32 (r.ttl : Int))
    have ho_1 := ho_0.keptB hb_0 (by decide) 1 (.int .u32 (r.ttl : Int))
    have hb_2 := block_set hb_1 2 (.int .i64 r.data.ty)
    have ho_2 := ho_1.keptB hb_1 (by decide) 2 (.int .i64 r.data.ty)
    have hb_3 := block_set hb_2 3 (.slice a9 ss.length c9)
    have ho_3 := ho_2.keptB hb_2 (by decide) 3 (.slice a9 ss.length c9)
    have hb_4 := block_set hb_3 4 (.slice p4 q4 k4)
    have ho_4 := ho_3.keptB hb_3 (by decide) 4 (.slice p4 q4 k4)
    have hb_5 := block_set hb_4 5 (.slice p5 q5 k5)
    have ho_5 := ho_4.keptB hb_4 (by decide) 5 (.slice p5 q5 k5)
    have hb_6 := block_set hb_5 6 (.slice p6 q6 k6)
    have ho_6 := ho_5.keptB hb_5 (by decide) 6 (.slice p6 q6 k6)
    have hsN := (((((((HS7.put 0 (.slice p0 q0 k0)).put 1 (.int .u32 (r.ttl : Int))).put 2 (.int .i64 r.data.ty)).put 3 (.slice a9 ss.length c9)).put 4 (.slice p4 q4 k4)).put 5 (.slice p5 q5 k5)).put 6 (.slice p6 q6 k6))
    have hqN : (_ : World).heap[w.heap.size + 1]? = some (.cells #[.slice p0 q0 k0, .int .u32 (r.ttl : Int), .int .i64 r.data.ty, .slice a9 ss.length c9, .slice p4 q4 k4, .slice p5 q5 k5, .slice p6 q6 k6] 109) := hb_6
    refine bodyPost_ret (results_ref rfl _ _ rfl hqN) rfl ?_
    exact ⟨[.slice p0 q0 k0, .int .u32 (r.ttl : Int), .int .i64 r.data.ty, .slice a9 ss.length c9, .slice p4 q4 k4, .slice p5 q5 k5, .slice p6 q6 k6], rfl, ho_6, hsN.below⟩
end Go.Proofs.YtckammgnmgkieaaGreat

/-
  The document's CheckRec, CompareRec, SameRec. (Written by wip/tools/genref5.py.)
-/
namespace Go.Proofs.YtckammgnmgkieaaGreat
set_option maxRecDepth 20000
open Go.RowKit Go.Shelf
set_option maxRecDepth 20000
set_option linter.unusedVariables false
set_option linter.unusedSimpArgs false

set_option maxRecDepth 100000 in
set_option maxHeartbeats 4000000 in
theorem ref_CheckRec (cs : List Value) (r : Rc) (w : World) (hA : RcAt w cs r) (hk : RcOK r) :
    Calls Tryz.prog 123 #[.agg cs.toArray] w fun e w' => e = .returned (.int .i64 (checkR r)) ∧ Below w.heap.size w w' := by
  obtain ⟨vo, vn, vu, vt, vr, rfl, a1, a2⟩ := hA
  have HN := Lib.hid (fun W (hb : Below w.heap.size w W) => kn_RCheck vo r.owner _ rfl W (a1.below hb) hk.1)
  have HD := Lib.hid (fun W (hb : Below w.heap.size w W) => ref_CheckData _ r.data W (a2.below hb) hk.2.2)
  unfold CheckPost at HD
  have hR := Lib.hid (show checkR r = if checkN r.owner ≠ 0 then checkN r.owner else if 2147483647 < r.ttl then 7 else checkD r.data from rfl)
  generalize checkR r = res at *
  generalize checkN r.owner = q at *
  generalize checkD r.data = q2 at *
  generalize r.data.ty = x at *
  obtain ⟨t, ht⟩ : ∃ t, r.ttl = t := ⟨_, rfl⟩
  rw [ht] at hR ⊢
  have hb0 : Below w.heap.size w (w.alloc (.cells #[vo, .int .u32 (t : Int), .int .i64 x, vn, vu, vt, vr] 109)) := (Below.refl w.heap.size w).alloc (Nat.le_refl _) _
  have K1 := Lib.hid (knew w (.cells #[vo, .int .u32 (t : Int), .int .i64 x, vn, vu, vt, vr] 109))
  have HBB := Lib.hid hb0
  have hn := HN.out _ hb0
  clear a1 a2 hb0 hk ht HN
  by_cases hq : q = 0
  · subst hq
    by_cases hov : 2147483647 < t
    · have HR : Hid (res = 7) := Lib.hid (by rw [hR.out, if_neg (by simp), if_pos hov])
      have hovz : (2147483647 : Int) < (t : Int) := by omega
      clear hR
      go_enter Tryz.func123, Tryz.ntmps123
      go_wp2_with fail
      refine hn.mono ?_
      rintro e w1 ⟨rfl, hb1⟩
      have c1 := (hb1.block _ (kblock_lt K1.out)).trans K1.out
      have p1 := kcell c1 1 (.int .u32 (t : Int)) rfl
      have HB1 := Lib.hid (HBB.out.trans (hb1.mono HBB.out.size))
      clear hn hb1 c1
      go_wp2
      go_ret
      exact ⟨by rw [HR.out]; rfl, HB1.out⟩
    · have HR : Hid (res = q2) := Lib.hid (by rw [hR.out, if_neg (by simp), if_neg hov])
      have hovz : ¬ (2147483647 : Int) < (t : Int) := by omega
      clear hR
      go_enter Tryz.func123, Tryz.ntmps123
      go_wp2_with fail
      refine hn.mono ?_
      rintro e w1 ⟨rfl, hb1⟩
      have c1 := (hb1.block _ (kblock_lt K1.out)).trans K1.out
      have p1 := kcell c1 1 (.int .u32 (t : Int)) rfl; have p2 := kcell c1 2 _ rfl; have p3 := kcell c1 3 _ rfl; have p4 := kcell c1 4 _ rfl; have p5 := kcell c1 5 _ rfl; have p6 := kcell c1 6 _ rfl
      have HB1 := Lib.hid (HBB.out.trans (hb1.mono HBB.out.size))
      have hd := HD.out w1 HB1.out
      clear hn hb1 c1
      go_wp2_with fail
      refine hd.mono ?_
      rintro e w2 ⟨rfl, hb2⟩
      go_wp2
      go_ret
      exact ⟨by rw [HR.out]; rfl, HB1.out.trans (hb2.mono HB1.out.size)⟩
  · have HR : Hid (res = q) := Lib.hid (by rw [hR.out, if_pos hq])
    have hqz : (q == 0) = false := by simpa using hq
    have hqn : (q != 0) = true := by simpa using hq
    clear hR
    go_enter Tryz.func123, Tryz.ntmps123
    go_wp2_with fail
    refine hn.mono ?_
    rintro e w1 ⟨rfl, hb1⟩
    have HB1 := Lib.hid (HBB.out.trans (hb1.mono HBB.out.size))
    clear hn hb1
    go_wp2
    go_ret
    exact ⟨by rw [HR.out]; rfl, HB1.out⟩

end Go.Proofs.YtckammgnmgkieaaGreat

