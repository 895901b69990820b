import Derived.Deep.CutBlock
import Derived.Deep.DeepCutAuto
import Derived.Test.YtnpnfajgphpabaaGreatMQ05
namespace Go.Proofs.YtnpnfajgphpabaaGreat
set_option maxRecDepth 100000
set_option maxHeartbeats 16000000
open Go.RowKit Go.Shelf
theorem keepS4 {N : Nat} {W0 W W' : World} {p q r s : Addr} {u v x y : Value} (h : W.cell? p = some u ∧ W.cell? q = some v ∧ W.cell? r = some x ∧ W.cell? s = some y ∧ Below N W0 W) (hb : Below W.heap.size W W') (hp : p.block < N) (hq : q.block < N) (hr : r.block < N) (hs : s.block < N) (hn : N ≤ W0.heap.size) :
 W'.cell? p = some u ∧ W'.cell? q = some v ∧ W'.cell? r = some x ∧ W'.cell? s = some y ∧ Below N W0 W' := by
 have hz := h.2.2.2.2.size
 exact ⟨(hb.cell (by omega)).trans h.1, (hb.cell (by omega)).trans h.2.1, (hb.cell (by omega)).trans h.2.2.1, (hb.cell (by omega)).trans h.2.2.2.1, h.2.2.2.2.trans (hb.mono (by omega))⟩
theorem qcv (a b : Int) : cmpI (a - b) 0 = cmpI a b := by
 unfold cmpI
 by_cases h : a < b
 ·rw [if_pos h, if_pos (by omega)]
 ·rw [if_neg h, if_neg (by omega)]
  by_cases h2 : b < a
  ·rw [if_pos h2, if_pos (by omega)]
  ·rw [if_neg h2, if_neg (by omega)]
theorem qcJ {a b : Int} (h : a ≠ b) : cmpI a b ≠ 0 := by
 unfold cmpI; split
 ·decide
 ·split
  ·decide
  ·omega
theorem qb4 (a : Int) : cmpI a a = 0 := by simp [cmpI]
theorem qdq {W : World} {v : Value} {xs : List UInt8} (h : SlAt W v (xs.map bv)) : (convert 42 9 v).run Tryz.prog W = .ok (.string ⟨xs.toArray⟩) W := by
 obtain ⟨a, c, rfl, hc, hz, hx⟩ := h
 rw [List.length_map] at *
 cases xs with
 | nil =>
  cases a with
  | none => exact Lib.run_convert_nil_bytes W _ _ _ _ Tryz.underlying42 Tryz.underlying5 Tryz.underlying9
  | some p => exact run_convert_bytes_back W 42 9 5 p c [] Tryz.underlying42 Tryz.underlying5 Tryz.underlying9 (fun j hj => absurd hj (Nat.not_lt_zero _))
 | cons y r =>
  rcases hx with e | ⟨b, off, rfl, _, hcell⟩
  ·simp at e
  ·exact run_convert_bytes_back W 42 9 5 ⟨b, off, none⟩ c (y :: r) Tryz.underlying42 Tryz.underlying5 Tryz.underlying9 (fun j hj => by
    have := hcell j (by simpa using hj)
    rw [List.getElem_map] at this
    have e : ((⟨b, off, none⟩ : Addr).add j) = ⟨b, off + j, none⟩ := by unfold Addr.add; by_cases hj : j = 0 <;> simp [hj]
    rw [e]; exact this)
theorem qeM (v u : Value) (a b : Dat) (w : World) (hA : DatAt w v a) (hU : DatAt w u b) (hk : DatOK a) (hk2 : DatOK b) :
 Calls Tryz.prog 91 #[v, u] w fun e w' => e = .returned (.int .i64 (qas a b)) ∧ Below w.heap.size w w' := by
 obtain ⟨vn, vu, vt, vr, rfl, ⟨vs, s1, sl, s2⟩, a2, a3, a4⟩ := hA
 obtain ⟨un, uu, ut, ur, rfl, ⟨us, t1, tl, t2⟩, b2, b3, b4⟩ := hU
 obtain ⟨_, k1, k2, k3, k4, k5, k6⟩ := hk
 obtain ⟨_, l1, l2, l3, l4, l5, l6⟩ := hk2
 have q2 := a2; have q4 := a4; have q3 := a3.1; have p2 := b2; have p4 := b4; have p3 := b3.1
 obtain ⟨an, ca, rfl, _⟩ := id s1
 obtain ⟨bn, cb, rfl, _⟩ := id a2
 obtain ⟨tn, ct, rfl, _⟩ := id a3.1
 obtain ⟨rn, cr, rfl, _⟩ := id a4
 obtain ⟨am, da, rfl, _⟩ := id t1
 obtain ⟨bm, db, rfl, _⟩ := id b2
 obtain ⟨tm, dt, rfl, _⟩ := id b3.1
 obtain ⟨rm, dr, rfl, _⟩ := id b4
 have hcA := fun W (hb : Below w.heap.size w W) j (hj : j < vs.length) => s1.cell hb j hj
 have hcB := fun W (hb : Below w.heap.size w W) j (hj : j < us.length) => t1.cell hb j hj
 have hcC := fun W (hb : Below w.heap.size w W) j hj => q2.cell hb j hj
 have hcD := fun W (hb : Below w.heap.size w W) j hj => p2.cell hb j hj
 have hcE := fun W (hb : Below w.heap.size w W) j hj => q3.cell hb j hj
 have hcF := fun W (hb : Below w.heap.size w W) j hj => p3.cell hb j hj
 have hNA : ∀ W (_ : Below w.heap.size w W) j (_ : j < vs.length) (h2 : j < a.names.length), NmAt W vs[j] a.names[j] := fun W hb j h1 _ => (s2 j h1).below hb
 have hNB : ∀ W (_ : Below w.heap.size w W) j (_ : j < us.length) (h2 : j < b.names.length), NmAt W us[j] b.names[j] := fun W hb j h1 _ => (t2 j h1).below hb
 have hOA := fun j (hj : j < a.names.length) => k2 _ (List.getElem_mem hj)
 have hOB := fun j (hj : j < b.names.length) => l2 _ (List.getElem_mem hj)
 have HUA := qH0 (fun j (hj : j < a.nums.length) => k4 _ (List.getElem_mem hj)); have HUB := qH0 (fun j (hj : j < b.nums.length) => l4 _ (List.getElem_mem hj))
 clear k4 l4
 have HCA := qH0 hcA; have HCB := qH0 hcB; have HCC := qH0 hcC; have HCD := qH0 hcD; have HCE := qH0 hcE; have HCF := qH0 hcF
 have HNA := qH0 hNA; have HNB := qH0 hNB; have HOA := qH0 hOA; have HOB := qH0 hOB
 have HR : Hid (qas a b = orI (cmpI a.ty b.ty) (orI (cmpL qai a.names b.names) (orI (cmpL cmpU a.nums b.nums) (orI (cmpL orderM a.texts b.texts) (orderM a.raw b.raw))))) := qH0 (by rw [qbZ]; rfl)
 clear hcA hcB hcC hcD hcE hcF hNA hNB hOA hOB s1 s2 t1 t2 a2 a3 a4 b2 b3 b4 q2 q3 p2 p3 k2 l2
 rw [← sl] at k1; rw [← tl] at l1
 have HSL := qH0 sl; have HTL := qH0 tl
 clear sl tl
 rw [List.length_map, List.length_map, List.length_map, List.length_map]
 have k3' : a.nums.length ≤ 1048576 := k3
 have l3' : b.nums.length ≤ 1048576 := l3
 have k5' := k5.1; have l5' := l5.1
 generalize qas a b = res at *
 obtain ⟨n1, e1⟩ : ∃ n, vs.length = n := ⟨_, rfl⟩
 obtain ⟨n2, e2⟩ : ∃ n, a.nums.length = n := ⟨_, rfl⟩
 obtain ⟨n3, e3⟩ : ∃ n, a.texts.length = n := ⟨_, rfl⟩
 obtain ⟨n4, e4⟩ : ∃ n, a.raw.length = n := ⟨_, rfl⟩
 obtain ⟨m1, f1⟩ : ∃ n, us.length = n := ⟨_, rfl⟩
 obtain ⟨m2, f2⟩ : ∃ n, b.nums.length = n := ⟨_, rfl⟩
 obtain ⟨m3, f3⟩ : ∃ n, b.texts.length = n := ⟨_, rfl⟩
 obtain ⟨m4, f4⟩ : ∃ n, b.raw.length = n := ⟨_, rfl⟩
 have E1 := qH0 e1; have E2 := qH0 e2; have E3 := qH0 e3; have E4 := qH0 e4; have F1 := qH0 f1; have F2 := qH0 f2; have F3 := qH0 f3; have F4 := qH0 f4
 rw [e1] at k1 ⊢; rw [f1] at l1 ⊢; rw [e2] at k3' ⊢; rw [f2] at l3' ⊢; rw [e3] at k5' ⊢; rw [f3] at l5' ⊢; rw [e4, f4]
 have HCV : Hid (∀ W, Below w.heap.size w W → (convert 42 9 (.slice rn n4 cr)).run Tryz.prog W = .ok (.string ⟨a.raw.toArray⟩) W) := qH0 (fun W hb => by have h := qdq (q4.below hb); rw [List.length_map, e4] at h; exact h)
 have HCW : Hid (∀ W, Below w.heap.size w W → (convert 42 9 (.slice rm m4 dr)).run Tryz.prog W = .ok (.string ⟨b.raw.toArray⟩) W) := qH0 (fun W hb => by have h := qdq (p4.below hb); rw [List.length_map, f4] at h; exact h)
 clear q4 p4
 clear e1 e2 e3 e4 f1 f2 f3 f4 k3 l3 k6 l6
 obtain ⟨x, hx⟩ : ∃ x, a.ty = x := ⟨_, rfl⟩
 obtain ⟨y, hy⟩ : ∃ y, b.ty = y := ⟨_, rfl⟩
 rw [hx, hy] at HR ⊢
 clear hx hy
 have hb0 : Below w.heap.size w ((w.alloc (.cells #[.int .i64 x, .slice an n1 ca, .slice bn n2 cb, .slice tn n3 ct, .slice rn n4 cr] 87)).alloc (.cells #[.int .i64 y, .slice am m1 da, .slice bm m2 db, .slice tm m3 dt, .slice rm m4 dr] 87)) := ((Below.refl _ w).alloc (qN0) _).alloc (by simp) _
 have g0 := new_at w [.int .i64 x, .slice an n1 ca, .slice bn n2 cb, .slice tn n3 ct, .slice rn n4 cr] 87
 have g1 := new_at (w.alloc (.cells #[.int .i64 x, .slice an n1 ca, .slice bn n2 cb, .slice tn n3 ct, .slice rn n4 cr] 87)) [.int .i64 y, .slice am m1 da, .slice bm m2 db, .slice tm m3 dt, .slice rm m4 dr] 87
 rw [World.size_alloc] at g1
 have hcx : ∀ (j : Nat) (z : Value), [Value.int .i64 x, .slice an n1 ca, .slice bn n2 cb, .slice tn n3 ct, .slice rn n4 cr][j]? = some z → ((w.alloc (.cells #[.int .i64 x, .slice an n1 ca, .slice bn n2 cb, .slice tn n3 ct, .slice rn n4 cr] 87)).alloc (.cells #[.int .i64 y, .slice am m1 da, .slice bm m2 db, .slice tm m3 dt, .slice rm m4 dr] 87)).cell? ⟨w.heap.size, j, none⟩ = some z := fun j z h =>
  ((((Below.refl (w.heap.size + 1) (w.alloc (.cells #[.int .i64 x, .slice an n1 ca, .slice bn n2 cb, .slice tn n3 ct, .slice rn n4 cr] 87))).alloc (by simp) (.cells #[.int .i64 y, .slice am m1 da, .slice bm m2 db, .slice tm m3 dt, .slice rm m4 dr] 87))).cell (p := ⟨w.heap.size, j, none⟩) (Nat.lt_succ_self _)).trans (g0 j z h)
 have x0 := hcx 0 _ rfl; have x1 := hcx 1 _ rfl; have x2 := hcx 2 _ rfl; have x3 := hcx 3 _ rfl; have x4 := hcx 4 _ rfl
 have y0 := g1 0 _ rfl; have y1 := g1 1 _ rfl; have y2 := g1 2 _ rfl; have y3 := g1 3 _ rfl; have y4 := g1 4 _ rfl
 have hz : ((w.alloc (.cells #[.int .i64 x, .slice an n1 ca, .slice bn n2 cb, .slice tn n3 ct, .slice rn n4 cr] 87)).alloc (.cells #[.int .i64 y, .slice am m1 da, .slice bm m2 db, .slice tm m3 dt, .slice rm m4 dr] 87)).heap.size = w.heap.size + 2 := by simp
 have HSg := qH0 (fun (d : Int) W => qgK d W)
 have HZ := qH0 hz; have HB0 := qH0 hb0
 clear g0 g1 hcx hb0 hz
 by_cases hxy : (x != y) = true
 ·have H0 : Hid (res = cmpI x y) := qH0 (by rw [HR.out]; unfold orI; rw [if_neg (qcJ (by simpa using hxy))])
  go_enter Tryz.func91, Tryz.ntmps91
  go_wp2_with (go_at_call 111; refine (qjb _ _ _).mono ?_; rintro e w2 ⟨rfl, rfl⟩)
  go_ret
  exact ⟨by rw [H0.out]; rfl, HB0.out⟩
 have hxy2 : (x != y) = false := by simpa using hxy
 have hxe : x = y := by simpa using hxy2
 subst hxe
 have H1 : Hid (res = orI (cmpL qai (a.names.drop 0) (b.names.drop 0)) (orI (cmpL cmpU a.nums b.nums) (orI (cmpL orderM a.texts b.texts) (orderM a.raw b.raw)))) := qH0 (by rw [HR.out, qb4]; rfl)
 clear HR hxy
 go_enter Tryz.func91, Tryz.ntmps91
 go_upto_block 0 with fail
 have HX := qH0 (show _ ∧ _ ∧ _ ∧ _ ∧ _ ∧ _ ∧ _ ∧ _ from ⟨x1, x2, x3, x4, y1, y2, y3, y4⟩)
 clear x0 x1 x2 x3 x4 y0 y1 y2 y3 y4
 generalize ((w.alloc (.cells #[.int .i64 x, .slice an n1 ca, .slice bn n2 cb, .slice tn n3 ct, .slice rn n4 cr] 87)).alloc (.cells #[.int .i64 x, .slice am m1 da, .slice bm m2 db, .slice tm m3 dt, .slice rm m4 dr] 87)) = W0 at *
 have HN : Hid (w.heap.size + 2 ≤ W0.heap.size) := qH0 (by rw [HZ.out]; exact qN0)
 clear HZ
 have HRd : Hid (∀ W, Below (w.heap.size + 2) W0 W → W.cell? ⟨w.heap.size, 1, none⟩ = some (.slice an n1 ca) ∧ W.cell? ⟨w.heap.size, 2, none⟩ = some (.slice bn n2 cb) ∧ W.cell? ⟨w.heap.size, 3, none⟩ = some (.slice tn n3 ct) ∧ W.cell? ⟨w.heap.size, 4, none⟩ = some (.slice rn n4 cr) ∧ W.cell? ⟨w.heap.size + 1, 1, none⟩ = some (.slice am m1 da) ∧ W.cell? ⟨w.heap.size + 1, 2, none⟩ = some (.slice bm m2 db) ∧ W.cell? ⟨w.heap.size + 1, 3, none⟩ = some (.slice tm m3 dt) ∧ W.cell? ⟨w.heap.size + 1, 4, none⟩ = some (.slice rm m4 dr) ∧ Below w.heap.size w W) := qH0 (fun W hb => by
  obtain ⟨z1, z2, z3, z4, z5, z6, z7, z8⟩ := HX.out
  have hA : w.heap.size < w.heap.size + 2 := by omega
  have hB : w.heap.size + 1 < w.heap.size + 2 := by omega
  exact ⟨(hb.cell hA).trans z1, (hb.cell hA).trans z2, (hb.cell hA).trans z3, (hb.cell hA).trans z4, (hb.cell hB).trans z5, (hb.cell hB).trans z6, (hb.cell hB).trans z7, (hb.cell hB).trans z8, HB0.out.trans (hb.mono (by omega))⟩)
 clear HX
 go_cut [5, 6] (fun _ _ wx => Hid (res = orI (cmpI n1 m1) (orI (cmpL cmpU a.nums b.nums) (orI (cmpL orderM a.texts b.texts) (orderM a.raw b.raw)))) ∧ Below (w.heap.size + 2) W0 wx)
 case first =>
  have Hst := qH0 (Below.refl (w.heap.size + 2) W0)
  go_wp2_with fail
  go_loopw [5, 6] (fun i _ wr => ∃ k : Nat, i = .int .i64 k ∧ k ≤ n1 ∧ k ≤ m1 ∧ Hid (res = orI (cmpL qai (a.names.drop k) (b.names.drop k)) (orI (cmpL cmpU a.nums b.nums) (orI (cmpL orderM a.texts b.texts) (orderM a.raw b.raw)))) ∧ Below (w.heap.size + 2) W0 wr) (fun i _ _ => n1 - (intOf i).toNat)
  case atStart => exact ⟨0, rfl, Nat.zero_le _, Nat.zero_le _, H1, Hst.out⟩
  case round =>
   obtain ⟨k, rfl, hkn, hkm, HC, hB⟩ := hrel
   obtain ⟨z1, _, _, _, z5, _, _, _, hB0⟩ := HRd.out _ hB
   by_cases hlt : k < n1
   ·by_cases hlm : k < m1
    ·have hkp : k < vs.length := by rw [E1.out]; exact hlt
     have hkq : k < us.length := by rw [F1.out]; exact hlm
     have hkp2 : k < a.names.length := by rw [← HSL.out]; exact hkp
     have hkq2 : k < b.names.length := by rw [← HTL.out]; exact hkq
     obtain ⟨g, off, rfl, hg, hc⟩ := HCA.out wr hB0 k hkp
     obtain ⟨g2, off2, rfl, hg2, hc2⟩ := HCB.out wr hB0 k hkq
     have hF := fun W (hb : Below w.heap.size w W) => qd9 _ _ _ _ W (HNA.out W hb k hkp hkp2).1 (HNB.out W hb k hkq hkq2).1 (HOA.out k hkp2) (HOB.out k hkq2)
     obtain ⟨-, ⟨pa, pc, ep, -⟩, -⟩ : True ∧ NmAt w vs[k] a.names[k] := ⟨trivial, HNA.out w (Below.refl _ w) k hkp hkp2⟩
     obtain ⟨-, ⟨pb, pd, eq, -⟩, -⟩ : True ∧ NmAt w us[k] b.names[k] := ⟨trivial, HNB.out w (Below.refl _ w) k hkq hkq2⟩
     rw [ep] at hc; rw [eq] at hc2; rw [ep, eq] at hF
     obtain ⟨q, hq⟩ : ∃ q, qai a.names[k] b.names[k] = q := ⟨_, rfl⟩
     have HQ := qH0 (show res = orI (if q = 0 then cmpL qai (a.names.drop (k + 1)) (b.names.drop (k + 1)) else q) (orI (cmpL cmpU a.nums b.nums) (orI (cmpL orderM a.texts b.texts) (orderM a.raw b.raw))) by rw [HC.out, qb6 k hkp2 hkq2, hq])
     rw [hq] at hF
     clear ep eq
     obtain ⟨la, hla⟩ : ∃ l, a.names[k].length = l := ⟨_, rfl⟩
     obtain ⟨lb, hlb⟩ : ∃ l, b.names[k].length = l := ⟨_, rfl⟩
     rw [hla] at hc hF
     rw [hlb] at hc2 hF
     have hkn1 : (0 : Int) ≤ (k : Int) := by omega
     have hkn2 : (k : Int) < (n1 : Int) := by omega
     have hkn3 : (k : Int) < (m1 : Int) := by omega
     have HF := qH0 (fun W (h : Below (w.heap.size + 2) W0 W) => hF W (HRd.out W h).2.2.2.2.2.2.2.2)
     have hS0 : wr.cell? ⟨g, off + k, none⟩ = some (.slice pa la pc) ∧ wr.cell? ⟨g2, off2 + k, none⟩ = some (.slice pb lb pd) ∧ wr.cell? ⟨w.heap.size, 1, none⟩ = some (.slice (some ⟨g, off, none⟩) n1 ca) ∧ wr.cell? ⟨w.heap.size + 1, 1, none⟩ = some (.slice (some ⟨g2, off2, none⟩) m1 da) ∧ Below (w.heap.size + 2) W0 wr := ⟨hc, hc2, z1, z5, hB⟩
     have KS := qH0 (fun (W W' : World) (h : W.cell? ⟨g, off + k, none⟩ = some (.slice pa la pc) ∧ W.cell? ⟨g2, off2 + k, none⟩ = some (.slice pb lb pd) ∧ W.cell? ⟨w.heap.size, 1, none⟩ = some (.slice (some ⟨g, off, none⟩) n1 ca) ∧ W.cell? ⟨w.heap.size + 1, 1, none⟩ = some (.slice (some ⟨g2, off2, none⟩) m1 da) ∧ Below (w.heap.size + 2) W0 W) (hb : Below W.heap.size W W') => keepS4 h hb (by show g < _; omega) (by show g2 < _; omega) (by show w.heap.size < _; omega) (by show w.heap.size + 1 < _; omega) HN.out)
     clear hF hq hla hlb hkp hkq hkp2 hkq2 HC hc hc2 hB hB0 z1 z5
     go_wp2_with fail
     go_region_held3 (fun W => W.cell? ⟨g, off + k, none⟩ = some (.slice pa la pc) ∧ W.cell? ⟨g2, off2 + k, none⟩ = some (.slice pb lb pd) ∧ W.cell? ⟨w.heap.size, 1, none⟩ = some (.slice (some ⟨g, off, none⟩) n1 ca) ∧ W.cell? ⟨w.heap.size + 1, 1, none⟩ = some (.slice (some ⟨g2, off2, none⟩) m1 da) ∧ Below (w.heap.size + 2) W0 W) (first | assumption | exact KS.out _ _ (by assumption) (qaI (qL0))) (first | ((with_reducible refine (HF.out _ (by go_split_ands; assumption)).mono ?_); rintro e w2 ⟨rfl, hb2⟩; have hS2 := KS.out _ _ (by assumption) hb2))
     all_goals
      rename_i hSe
      have HSe := qH0 hSe.2.2.2.2
      clear hSe hS2 hS0
      by_cases hq0 : (q != 0) = true
      ·have H0 : Hid (res = q) := qH0 (by
        have h := HQ.out
        have hq : q ≠ 0 := by simpa using hq0
        rw [if_neg hq] at h; unfold orI at h; rw [if_neg hq] at h; exact h)
       go_wp2_with fail
       go_ret
       exact ⟨by rw [H0.out]; rfl, (HRd.out _ HSe.out).2.2.2.2.2.2.2.2⟩
      ·have hq1 : (q != 0) = false := by simpa using hq0
       have H2 : Hid (res = orI (cmpL qai (a.names.drop (k + 1)) (b.names.drop (k + 1))) (orI (cmpL cmpU a.nums b.nums) (orI (cmpL orderM a.texts b.texts) (orderM a.raw b.raw)))) := qH0 (by
        have h := HQ.out
        have hq : q = 0 := by simpa using hq1
        rw [if_pos hq] at h; exact h)
       clear hq0
       go_wp2_with fail
       go_roundw
       case rel => exact ⟨k + 1, by go_num, by omega, by omega, H2, HSe.out⟩
       case measure => simp [intOf]; omega
    ·obtain rfl : k = m1 := by omega
     have H2 : Hid (res = orI (cmpI n1 k) (orI (cmpL cmpU a.nums b.nums) (orI (cmpL orderM a.texts b.texts) (orderM a.raw b.raw)))) := qH0 (by
      have h := HC.out
      rw [qbn k (by rw [← HSL.out, E1.out]; omega) (by rw [← HTL.out, F1.out]; omega) (.inr (by rw [← HTL.out, F1.out])), ← HSL.out, E1.out, ← HTL.out, F1.out] at h
      exact h)
     have HB := qH0 hB
     have hkn2 : (k : Int) < (n1 : Int) := by omega
     have hkn3 : ¬ (k : Int) < (k : Int) := by omega
     clear hB hB0 HC
     go_wp2_with fail
     go_meet
     exact ⟨H2, HB.out⟩
   ·obtain rfl : k = n1 := by omega
    have H2 : Hid (res = orI (cmpI k m1) (orI (cmpL cmpU a.nums b.nums) (orI (cmpL orderM a.texts b.texts) (orderM a.raw b.raw)))) := qH0 (by
     have h := HC.out
     rw [qbn k (by rw [← HSL.out, E1.out]; omega) (by rw [← HTL.out, F1.out]; omega) (.inl (by rw [← HSL.out, E1.out])), ← HSL.out, E1.out, ← HTL.out, F1.out] at h
     exact h)
    have HB := qH0 hB
    have hkn3 : ¬ (k : Int) < (k : Int) := by omega
    clear hB hB0 HC
    go_wp2_with fail
    go_meet
    exact ⟨H2, HB.out⟩
 case rest =>
 obtain ⟨HC1, hB1⟩ := hcut
 clear H1
 obtain ⟨z1, -, -, -, z5, -, -, -, hBz⟩ := HRd.out _ hB1
 by_cases hnm : ((n1 : Int) != (m1 : Int)) = true
 ·have H0 : Hid (res = cmpI ((n1 : Int) - (m1 : Int)) 0) := qH0 (by
   have h := HC1.out
   unfold orI at h
   rw [if_neg (qcJ (by simpa using hnm))] at h
   rw [qcv]; exact h)
  have HB := qH0 hBz
  clear hB1 hBz
  go_wp2_with (go_at_call 110; refine (HSg.out _ _).mono ?_; rintro e w2 ⟨rfl, rfl⟩)
  go_ret
  exact ⟨by rw [H0.out]; rfl, HB.out⟩
 have hnm2 : ((n1 : Int) != (m1 : Int)) = false := by simpa using hnm
 have H2 : Hid (res = orI (cmpL cmpU (a.nums.drop 0) (b.nums.drop 0)) (orI (cmpL orderM a.texts b.texts) (orderM a.raw b.raw))) := qH0 (by
  have h := HC1.out
  have e : (n1 : Int) = (m1 : Int) := by simpa using hnm2
  rw [e, qb4] at h; exact h)
 have HB1 := qH0 hB1
 clear hnm hB1 hBz HC1
 go_upto_block 2 with fail
 clear z1 z5 hnm2
 go_cut [7] (fun _ wx => Hid (res = orI (cmpI n2 m2) (orI (cmpL orderM a.texts b.texts) (orderM a.raw b.raw))) ∧ Below (w.heap.size + 2) W0 wx)
 case first =>
  go_wp2_with fail
  go_loopw [7] (fun i wr => ∃ k : Nat, i = .int .i64 k ∧ k ≤ n2 ∧ k ≤ m2 ∧ Hid (res = orI (cmpL cmpU (a.nums.drop k) (b.nums.drop k)) (orI (cmpL orderM a.texts b.texts) (orderM a.raw b.raw))) ∧ Below (w.heap.size + 2) W0 wr) (fun i _ => n2 - (intOf i).toNat)
  case atStart => exact ⟨0, rfl, Nat.zero_le _, Nat.zero_le _, H2, HB1.out⟩
  case round =>
   obtain ⟨k, rfl, hkn, hkm, HC, hB⟩ := hrel
   obtain ⟨-, z2, -, -, -, z6, -, -, hB0⟩ := HRd.out _ hB
   by_cases hlt : k < n2
   ·by_cases hlm : k < m2
    ·have hkp2 : k < a.nums.length := by rw [E2.out]; exact hlt
     have hkq2 : k < b.nums.length := by rw [F2.out]; exact hlm
     obtain ⟨g, off, rfl, hg, hc⟩ := HCC.out wr hB0 k (by rw [List.length_map]; exact hkp2)
     obtain ⟨g2, off2, rfl, hg2, hc2⟩ := HCD.out wr hB0 k (by rw [List.length_map]; exact hkq2)
     have hup := HUA.out k hkp2
     have huq := HUB.out k hkq2
     have HQ := qH0 (show res = orI (if cmpU a.nums[k] b.nums[k] = 0 then cmpL cmpU (a.nums.drop (k + 1)) (b.nums.drop (k + 1)) else cmpU a.nums[k] b.nums[k]) (orI (cmpL orderM a.texts b.texts) (orderM a.raw b.raw)) by rw [HC.out, qb6 k hkp2 hkq2])
     rw [List.getElem_map] at hc hc2
     unfold u32V at hc hc2
     obtain ⟨p, hp⟩ : ∃ p, a.nums[k] = p := ⟨_, rfl⟩
     obtain ⟨q, hq⟩ : ∃ q, b.nums[k] = q := ⟨_, rfl⟩
     rw [hp] at hup hc HQ
     rw [hq] at huq hc2 HQ
     have hkn1 : (0 : Int) ≤ (k : Int) := by omega
     have hkn2 : (k : Int) < (n2 : Int) := by omega
     have hkn3 : (k : Int) < (m2 : Int) := by omega
     have hp1 : (p : Int) < 4294967296 := by omega
     have hq1 : (q : Int) < 4294967296 := by omega
     have hS0 : (wr.cell? ⟨g, off + k, none⟩ = some (.int .u32 (p : Int)) ∧ wr.cell? ⟨g2, off2 + k, none⟩ = some (.int .u32 (q : Int)) ∧ wr.cell? ⟨w.heap.size, 2, none⟩ = some (.slice (some ⟨g, off, none⟩) n2 cb) ∧ wr.cell? ⟨w.heap.size + 1, 2, none⟩ = some (.slice (some ⟨g2, off2, none⟩) m2 db) ∧ Below (w.heap.size + 2) W0 wr) := ⟨hc, hc2, z2, z6, hB⟩
     have KS := qH0 (fun (W W' : World) (h : (W.cell? ⟨g, off + k, none⟩ = some (.int .u32 (p : Int)) ∧ W.cell? ⟨g2, off2 + k, none⟩ = some (.int .u32 (q : Int)) ∧ W.cell? ⟨w.heap.size, 2, none⟩ = some (.slice (some ⟨g, off, none⟩) n2 cb) ∧ W.cell? ⟨w.heap.size + 1, 2, none⟩ = some (.slice (some ⟨g2, off2, none⟩) m2 db) ∧ Below (w.heap.size + 2) W0 W)) (hb : Below W.heap.size W W') => keepS4 h hb (by show g < _; omega) (by show g2 < _; omega) (by show w.heap.size < _; omega) (by show w.heap.size + 1 < _; omega) HN.out)
     clear hp hq hup huq hkp2 hkq2 HC hB hB0
     by_cases hq0 : ((p : Int) != (q : Int)) = true
     ·have H0 : Hid (res = cmpI ((p : Int) - (q : Int)) 0) := qH0 (by
       have h := HQ.out
       have hne : cmpU p q ≠ 0 := qcJ (by simpa using hq0)
       rw [if_neg hne] at h; unfold orI at h; rw [if_neg hne] at h
       rw [qcv]; exact h)
      have HW : Hid (cmpI (IntKind.i64.wrap (IntKind.i64.wrap (p : Int) - IntKind.i64.wrap (q : Int))) 0 = cmpI ((p : Int) - (q : Int)) 0) := qH0 (by rw [IntWalk.i64_in (p : Int) (by omega), IntWalk.i64_in (q : Int) (by omega), IntWalk.i64_in _ (by omega)])
      clear HQ
      go_wp2_with fail
      go_region_held3 (fun W => (W.cell? ⟨g, off + k, none⟩ = some (.int .u32 (p : Int)) ∧ W.cell? ⟨g2, off2 + k, none⟩ = some (.int .u32 (q : Int)) ∧ W.cell? ⟨w.heap.size, 2, none⟩ = some (.slice (some ⟨g, off, none⟩) n2 cb) ∧ W.cell? ⟨w.heap.size + 1, 2, none⟩ = some (.slice (some ⟨g2, off2, none⟩) m2 db) ∧ Below (w.heap.size + 2) W0 W)) (first | assumption | exact KS.out _ _ (by assumption) (qaI (qL0))) (fail)
      rename_i hSe
      clear hS0 hc hc2 z2 z6
      obtain ⟨hc, hc2, z2, z6, hB⟩ := id hSe
      go_wp2_with fail
      go_region_held3 (fun W => (W.cell? ⟨g, off + k, none⟩ = some (.int .u32 (p : Int)) ∧ W.cell? ⟨g2, off2 + k, none⟩ = some (.int .u32 (q : Int)) ∧ W.cell? ⟨w.heap.size, 2, none⟩ = some (.slice (some ⟨g, off, none⟩) n2 cb) ∧ W.cell? ⟨w.heap.size + 1, 2, none⟩ = some (.slice (some ⟨g2, off2, none⟩) m2 db) ∧ Below (w.heap.size + 2) W0 W)) (first | assumption | exact KS.out _ _ (by assumption) (qaI (qL0))) (first | ((with_reducible refine (HSg.out _ _).mono ?_); rintro e w2 ⟨rfl, rfl⟩))
      all_goals
       rename_i hSf
       go_wp2_with fail
       go_ret
       exact ⟨by rw [H0.out, ← HW.out]; rfl, (HRd.out _ hSf.2.2.2.2).2.2.2.2.2.2.2.2⟩
     ·have hq2 : ((p : Int) != (q : Int)) = false := by simpa using hq0
      have H2 : Hid (res = orI (cmpL cmpU (a.nums.drop (k + 1)) (b.nums.drop (k + 1))) (orI (cmpL orderM a.texts b.texts) (orderM a.raw b.raw))) := qH0 (by
       have h := HQ.out
       have he : (p : Int) = (q : Int) := by simpa using hq2
       rw [if_pos (by unfold cmpU; rw [he, qb4])] at h; exact h)
      clear hq0 HQ
      go_wp2_with fail
      go_region_held3 (fun W => (W.cell? ⟨g, off + k, none⟩ = some (.int .u32 (p : Int)) ∧ W.cell? ⟨g2, off2 + k, none⟩ = some (.int .u32 (q : Int)) ∧ W.cell? ⟨w.heap.size, 2, none⟩ = some (.slice (some ⟨g, off, none⟩) n2 cb) ∧ W.cell? ⟨w.heap.size + 1, 2, none⟩ = some (.slice (some ⟨g2, off2, none⟩) m2 db) ∧ Below (w.heap.size + 2) W0 W)) (first | assumption | exact KS.out _ _ (by assumption) (qaI (qL0))) (fail)
      rename_i hSe
      have HSe := qH0 hSe.2.2.2.2
      clear hSe hS0 hc hc2 z2 z6
      go_wp2_with fail
      go_roundw
      case rel => exact ⟨k + 1, by go_num, by omega, by omega, H2, HSe.out⟩
      case measure => simp [intOf]; omega
    ·obtain rfl : k = m2 := by omega
     have H2 : Hid (res = orI (cmpI n2 k) (orI (cmpL orderM a.texts b.texts) (orderM a.raw b.raw))) := qH0 (by
      have h := HC.out
      rw [qbn k (by rw [E2.out]; omega) (by rw [F2.out]; omega) (.inr (by rw [F2.out])), E2.out, F2.out] at h
      exact h)
     have HB := qH0 hB
     have hkn2 : (k : Int) < (n2 : Int) := by omega
     have hkn3 : ¬ (k : Int) < (k : Int) := by omega
     clear hB hB0 HC
     go_wp2_with fail
     go_meet
     exact ⟨H2, HB.out⟩
   ·obtain rfl : k = n2 := by omega
    have H2 : Hid (res = orI (cmpI k m2) (orI (cmpL orderM a.texts b.texts) (orderM a.raw b.raw))) := qH0 (by
     have h := HC.out
     rw [qbn k (by rw [E2.out]; omega) (by rw [F2.out]; omega) (.inl (by rw [E2.out])), E2.out, F2.out] at h
     exact h)
    have HB := qH0 hB
    have hkn3 : ¬ (k : Int) < (k : Int) := by omega
    clear hB hB0 HC
    go_wp2_with fail
    go_meet
    exact ⟨H2, HB.out⟩
 case rest =>
 obtain ⟨HC1, hB1⟩ := hcut
 clear H2
 obtain ⟨-, z2, -, -, -, z6, -, -, hBz⟩ := HRd.out _ hB1
 by_cases hnm : ((n2 : Int) != (m2 : Int)) = true
 ·have H0 : Hid (res = cmpI ((n2 : Int) - (m2 : Int)) 0) := qH0 (by
   have h := HC1.out
   unfold orI at h
   rw [if_neg (qcJ (by simpa using hnm))] at h
   rw [qcv]; exact h)
  have HB := qH0 hBz
  clear hB1 hBz
  go_wp2_with (go_at_call 110; refine (HSg.out _ _).mono ?_; rintro e w2 ⟨rfl, rfl⟩)
  go_ret
  exact ⟨by rw [H0.out]; rfl, HB.out⟩
 have hnm2 : ((n2 : Int) != (m2 : Int)) = false := by simpa using hnm
 have H2 : Hid (res = orI (cmpL orderM (a.texts.drop 0) (b.texts.drop 0)) (orderM a.raw b.raw)) := qH0 (by
  have h := HC1.out
  have e : (n2 : Int) = (m2 : Int) := by simpa using hnm2
  rw [e, qb4] at h; exact h)
 have HB1 := qH0 hB1
 clear hnm hB1 hBz HC1
 go_upto_block 4 with fail
 clear z2 z6 hnm2
 go_cut [8, 9] (fun _ _ wx => Hid (res = orI (cmpI n3 m3) (orderM a.raw b.raw)) ∧ Below (w.heap.size + 2) W0 wx)
 case first =>
  go_wp2_with fail
  go_loopw [8, 9] (fun i _ wr => ∃ k : Nat, i = .int .i64 k ∧ k ≤ n3 ∧ k ≤ m3 ∧ Hid (res = orI (cmpL orderM (a.texts.drop k) (b.texts.drop k)) (orderM a.raw b.raw)) ∧ Below (w.heap.size + 2) W0 wr) (fun i _ _ => n3 - (intOf i).toNat)
  case atStart => exact ⟨0, rfl, Nat.zero_le _, Nat.zero_le _, H2, HB1.out⟩
  case round =>
   obtain ⟨k, rfl, hkn, hkm, HC, hB⟩ := hrel
   obtain ⟨-, -, z3, -, -, -, z7, -, hB0⟩ := HRd.out _ hB
   by_cases hlt : k < n3
   ·by_cases hlm : k < m3
    ·have hkp2 : k < a.texts.length := by rw [E3.out]; exact hlt
     have hkq2 : k < b.texts.length := by rw [F3.out]; exact hlm
     obtain ⟨g, off, rfl, hg, hc⟩ := HCE.out wr hB0 k hkp2
     obtain ⟨g2, off2, rfl, hg2, hc2⟩ := HCF.out wr hB0 k hkq2
     obtain ⟨s, hs0, hsz, hsv⟩ := str_of a.texts[k]
     obtain ⟨t, ht0, htz, htv⟩ := str_of b.texts[k]
     rw [hsv] at hc; rw [htv] at hc2
     have hF := fun W => qdH s t W
     rw [hs0, ht0] at hF
     obtain ⟨q, hq⟩ : ∃ q, orderM a.texts[k] b.texts[k] = q := ⟨_, rfl⟩
     have HQ := qH0 (show res = orI (if q = 0 then cmpL orderM (a.texts.drop (k + 1)) (b.texts.drop (k + 1)) else q) (orderM a.raw b.raw) by rw [HC.out, qb6 k hkp2 hkq2, hq])
     rw [hq] at hF
     have hkn1 : (0 : Int) ≤ (k : Int) := by omega
     have hkn2 : (k : Int) < (n3 : Int) := by omega
     have hkn3 : (k : Int) < (m3 : Int) := by omega
     have HF := qH0 hF
     have hS0 : (wr.cell? ⟨g, off + k, none⟩ = some (.string s) ∧ wr.cell? ⟨g2, off2 + k, none⟩ = some (.string t) ∧ wr.cell? ⟨w.heap.size, 3, none⟩ = some (.slice (some ⟨g, off, none⟩) n3 ct) ∧ wr.cell? ⟨w.heap.size + 1, 3, none⟩ = some (.slice (some ⟨g2, off2, none⟩) m3 dt) ∧ Below (w.heap.size + 2) W0 wr) := ⟨hc, hc2, z3, z7, hB⟩
     have KS := qH0 (fun (W W' : World) (h : (W.cell? ⟨g, off + k, none⟩ = some (.string s) ∧ W.cell? ⟨g2, off2 + k, none⟩ = some (.string t) ∧ W.cell? ⟨w.heap.size, 3, none⟩ = some (.slice (some ⟨g, off, none⟩) n3 ct) ∧ W.cell? ⟨w.heap.size + 1, 3, none⟩ = some (.slice (some ⟨g2, off2, none⟩) m3 dt) ∧ Below (w.heap.size + 2) W0 W)) (hb : Below W.heap.size W W') => keepS4 h hb (by show g < _; omega) (by show g2 < _; omega) (by show w.heap.size < _; omega) (by show w.heap.size + 1 < _; omega) HN.out)
     clear hF hq hs0 hsz hsv ht0 htz htv hkp2 hkq2 HC hc hc2 hB hB0 z3 z7
     obtain ⟨hc, hc2, z3, z7, -⟩ := id hS0
     go_wp2_with fail
     go_region_held3 (fun W => (W.cell? ⟨g, off + k, none⟩ = some (.string s) ∧ W.cell? ⟨g2, off2 + k, none⟩ = some (.string t) ∧ W.cell? ⟨w.heap.size, 3, none⟩ = some (.slice (some ⟨g, off, none⟩) n3 ct) ∧ W.cell? ⟨w.heap.size + 1, 3, none⟩ = some (.slice (some ⟨g2, off2, none⟩) m3 dt) ∧ Below (w.heap.size + 2) W0 W)) (first | assumption | exact KS.out _ _ (by assumption) (qaI (qL0))) (first | ((with_reducible refine (HF.out _).mono ?_); rintro e w2 ⟨rfl, rfl⟩))
     all_goals
      rename_i hSe
      have HSe := qH0 hSe.2.2.2.2
      clear hSe hS0 hc hc2 z3 z7
      by_cases hq0 : (q != 0) = true
      ·have H0 : Hid (res = q) := qH0 (by
        have h := HQ.out
        have hq : q ≠ 0 := by simpa using hq0
        rw [if_neg hq] at h; unfold orI at h; rw [if_neg hq] at h; exact h)
       go_wp2_with fail
       go_ret
       exact ⟨by rw [H0.out]; rfl, (HRd.out _ HSe.out).2.2.2.2.2.2.2.2⟩
      ·have hq1 : (q != 0) = false := by simpa using hq0
       have H2 : Hid (res = orI (cmpL orderM (a.texts.drop (k + 1)) (b.texts.drop (k + 1))) (orderM a.raw b.raw)) := qH0 (by
        have h := HQ.out
        have hq : q = 0 := by simpa using hq1
        rw [if_pos hq] at h; exact h)
       clear hq0
       go_wp2_with fail
       go_roundw
       case rel => exact ⟨k + 1, by go_num, by omega, by omega, H2, HSe.out⟩
       case measure => simp [intOf]; omega
    ·obtain rfl : k = m3 := by omega
     have H2 : Hid (res = orI (cmpI n3 k) (orderM a.raw b.raw)) := qH0 (by
      have h := HC.out
      rw [qbn k (by rw [E3.out]; omega) (by rw [F3.out]; omega) (.inr (by rw [F3.out])), E3.out, F3.out] at h
      exact h)
     have HB := qH0 hB
     have hkn2 : (k : Int) < (n3 : Int) := by omega
     have hkn3 : ¬ (k : Int) < (k : Int) := by omega
     clear hB hB0 HC
     go_wp2_with fail
     go_meet
     exact ⟨H2, HB.out⟩
   ·obtain rfl : k = n3 := by omega
    have H2 : Hid (res = orI (cmpI k m3) (orderM a.raw b.raw)) := qH0 (by
     have h := HC.out
     rw [qbn k (by rw [E3.out]; omega) (by rw [F3.out]; omega) (.inl (by rw [E3.out])), E3.out, F3.out] at h
     exact h)
    have HB := qH0 hB
    have hkn3 : ¬ (k : Int) < (k : Int) := by omega
    clear hB hB0 HC
    go_wp2_with fail
    go_meet
    exact ⟨H2, HB.out⟩
 case rest =>
 obtain ⟨HC1, hB1⟩ := hcut
 clear H2
 obtain ⟨-, -, z3, z4, -, -, z7, z8, hBz⟩ := HRd.out _ hB1
 by_cases hnm : ((n3 : Int) != (m3 : Int)) = true
 ·have H0 : Hid (res = cmpI ((n3 : Int) - (m3 : Int)) 0) := qH0 (by
   have h := HC1.out
   unfold orI at h
   rw [if_neg (qcJ (by simpa using hnm))] at h
   rw [qcv]; exact h)
  have HB := qH0 hBz
  clear hB1 hBz
  go_wp2_with (go_at_call 110; refine (HSg.out _ _).mono ?_; rintro e w2 ⟨rfl, rfl⟩)
  go_ret
  exact ⟨by rw [H0.out]; rfl, HB.out⟩
 have hnm2 : ((n3 : Int) != (m3 : Int)) = false := by simpa using hnm
 have H0 : Hid (res = orderM a.raw b.raw) := qH0 (by
  have h := HC1.out
  have e : (n3 : Int) = (m3 : Int) := by simpa using hnm2
  rw [e, qb4] at h; exact h)
 have hcv := HCV.out _ hBz
 have hcw := HCW.out _ hBz
 have HO := qH0 (fun W => qdH ⟨a.raw.toArray⟩ ⟨b.raw.toArray⟩ W)
 have HB := qH0 hBz
 clear hnm hB1 hBz HC1
 go_wp2_with (go_at_call 112; refine (HO.out _).mono ?_; rintro e w2 ⟨rfl, rfl⟩)
 go_ret
 exact ⟨by rw [H0.out]; rfl, HB.out⟩
end Go.Proofs.YtnpnfajgphpabaaGreat
