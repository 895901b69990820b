import Derived.Test.YtckammgnmgkieaaGreatMQ02
namespace Go.Proofs.YtckammgnmgkieaaGreat
set_option linter.unusedVariables false
set_option linter.unusedSimpArgs false
set_option maxRecDepth 20000
open Go.RowKit Go.Shelf
def ZonS (W : World) (za : Option Addr) (zn zc : Nat) (v1 : Option Addr) (m c : Nat) (o : Nm) (rs : List Rc) : Prop :=
 NmAt W (.slice za zn zc) o ∧ NmOK o ∧ (∃ css, SlK W (.slice v1 m c) css ∧ Rcs W css rs) ∧ (∀ r ∈ rs, RcOK r) ∧ m ≤ 1048576
theorem ZonS.below {W W' : World} {za v1 : Option Addr} {zn zc m c : Nat} {o : Nm} {rs : List Rc} (h : ZonS W za zn zc v1 m c o rs) (hb : Below W.heap.size W W') : ZonS W' za zn zc v1 m c o rs := by
 obtain ⟨h1, h2, ⟨css, h3, h4⟩, h5, h6⟩ := h
 exact ⟨h1.below hb, h2, ⟨css, h3.below hb, h4.below hb⟩, h5, h6⟩
theorem qfc {w : World} {za v1 : Option Addr} {zn zc m c : Nat} {o n : Nm} {rs : List Rc} {vn : Value} (h : ZonS w za zn zc v1 m c o rs) (hO : NmAt w vn n) (hko : NmOK n) :
 Calls Tryz.prog 56 #[vn, .slice za zn zc] w fun e w' => e = .returned (.bool (underN n o)) ∧ Below w.heap.size w w' := qd6 vn (.slice za zn zc) n o _ rfl w hO h.1 hko h.2.1
end Go.Proofs.YtckammgnmgkieaaGreat
namespace Go.Proofs.YtckammgnmgkieaaGreat
set_option linter.unusedVariables false
set_option linter.unusedSimpArgs false
set_option maxRecDepth 20000
open Go.RowKit
theorem qfu : ∀ l, sameG l l = true
 | [] => rfl
 | x :: r => by simp [sameG, qdN, qcQ, qfu r]
theorem qc7 (a : Lk) : sameLk a a = true := by simp [sameLk, qdN, qcQ, qfu]
end Go.Proofs.YtckammgnmgkieaaGreat
namespace Go.Proofs.YtckammgnmgkieaaGreat
set_option linter.unusedVariables false
set_option linter.unusedSimpArgs false
set_option maxRecDepth 100000
set_option maxHeartbeats 8000000
open Go.RowKit Go.Shelf
theorem qdP {s : St} (h : s.data.length = 0) : pointD s = false := by
 unfold pointD
 rw [List.eq_nil_of_length_eq_zero h]
theorem qcS {s : St} (h : 0 < s.data.length) : pointD s = decide (0 < s.data[0].names.length) := by
 unfold pointD
 obtain ⟨d, r, e⟩ : ∃ d r, s.data = d :: r := by
  cases hs : s.data with
  | nil => rw [hs] at h; cases h
  | cons d r => exact ⟨d, r, rfl⟩
 simp only [e, List.getElem_cons_zero]
 cases d.names <;> simp
theorem qcC (cs : List Value) (s : St) (w : World) (h : SetR w cs s) :
 Calls Tryz.prog 93 #[.agg cs.toArray] w fun e w' => e = .returned (.bool (pointD s)) ∧ Below w.heap.size w w' := by
 obtain ⟨⟨p0, q0, k0⟩, ⟨p3, q3, k3⟩, rfl⟩ := h.shape
 obtain ⟨ds, hA, hR, -⟩ := h.dts (x0 := (p0, q0, k0)) (x3 := (p3, q3, k3))
 have hc : s.data.length ≤ k3 := by
  obtain ⟨a', c', e, h1, _⟩ := id hA
  injection e with _ _ e3
  rw [hR.1] at h1; have e4 : k3 = c' := e3; omega
 have hz := @qdP s
 have hf := @qcS s
 have HB0 := qH0 ((Below.refl w.heap.size w).alloc (qN0) (.cells #[.slice p0 q0 k0, .int .i64 s.ty, .int .u32 (s.ttl : Int), .slice p3 s.data.length k3] 38))
 by_cases h0 : s.data.length = 0
 ·rw [hz h0]
  rw [h0] at HB0 ⊢
  clear hz hf hA hR hc h
  go_enter Tryz.func93, Tryz.ntmps93
  go_wp2
  go_ret
  exact ⟨rfl, HB0.out⟩
 ·have hp : 0 < s.data.length := by omega
  rw [hf hp]
  have hd1 : 0 < ds.length := by rw [hR.1]; exact hp
  obtain ⟨b, off, rfl, hb, hel⟩ := hA.elem5 hR.ck hd1
  have hd := (hR.2 0 hd1 hp).2
  obtain ⟨d, hdd⟩ : ∃ d, s.data[0] = d := ⟨_, rfl⟩
  rw [hdd] at hd ⊢
  obtain ⟨an, cn, ⟨p4, q4, r4⟩, ⟨p5, q5, r5⟩, ⟨p6, q6, r6⟩, vs, e0, s1, sl, hcn, s2⟩ := qcn hd
  simp only at e0
  obtain ⟨c0', c1, c2, c3, c4⟩ := hel 0 hd1 _ _ _ _ _ e0 _ HB0.out
  simp only [Nat.zero_mul, Nat.add_zero] at c0' c1 c2 c3 c4
  obtain ⟨n, hn⟩ : ∃ n, s.data.length = n := ⟨_, rfl⟩
  obtain ⟨m, hm⟩ : ∃ m, d.names.length = m := ⟨_, rfl⟩
  rw [hn] at hp hc HB0 c0' c1 c2 c3 c4 ⊢
  rw [hm] at c1 ⊢
  have hpz : (0 : Int) < (n : Int) := by omega
  clear hz hf hA hR h hd e0 s1 sl s2 hel hd1 hn
  generalize (s.ttl : Int) = tt at *
  by_cases h1 : 0 < m
  ·have h1z : (0 : Int) < (m : Int) := by omega
   rw [decide_eq_true h1]
   go_enter Tryz.func93, Tryz.ntmps93
   go_wp2
   go_ret
   exact ⟨rfl, HB0.out⟩
  ·have h1z : ¬ (0 : Int) < (m : Int) := by omega
   rw [decide_eq_false h1]
   go_enter Tryz.func93, Tryz.ntmps93
   go_wp2
   go_ret
   exact ⟨rfl, HB0.out⟩
end Go.Proofs.YtckammgnmgkieaaGreat
namespace Go.Proofs.YtckammgnmgkieaaGreat
set_option linter.unusedVariables false
set_option linter.unusedSimpArgs false
set_option maxRecDepth 100000
set_option maxHeartbeats 16000000
open Go.RowKit Go.Shelf
def markD (D : Nat) : Deferred := { target := .collected D, args := #[] }
def Marks (N0 : Nat) (Ds : List Nat) (W : World) : Prop := Ds.Nodup ∧ ∀ D ∈ Ds, N0 ≤ D ∧ W.heap[D]? = some (.deferred (some []))
theorem Marks.nil (N0 : Nat) (W : World) : Marks N0 [] W := ⟨List.nodup_nil, fun D h => by cases h⟩
theorem Marks.kept {N0 : Nat} {Ds : List Nat} {W W' : World} (h : Marks N0 Ds W) (hk : ∀ D o, N0 ≤ D → W.heap[D]? = some o → o.isCells = false → W'.heap[D]? = some o) : Marks N0 Ds W' :=
 ⟨h.1, fun D hD => ⟨(h.2 D hD).1, hk D _ (h.2 D hD).1 (h.2 D hD).2 rfl⟩⟩
theorem Marks.below {N0 : Nat} {Ds : List Nat} {W W' : World} (h : Marks N0 Ds W) (hb : Below W.heap.size W W') : Marks N0 Ds W' :=
 h.kept fun D o _ hD _ => (hb.block D (Array.getElem?_eq_some_iff.1 hD).1).trans hD
theorem Marks.kpx {N0 N B : Nat} {Ds : List Nat} {W W' : World} (h : Marks N0 Ds W) (hk : KpX N B W W') (hB : B < N0) (hN : W.heap.size ≤ N) : Marks N0 Ds W' :=
 h.kept fun D o hd hD _ => (hk.block D (by have := (Array.getElem?_eq_some_iff.1 hD).1; omega) (by omega)).trans hD
theorem Marks.cons {N0 D : Nat} {Ds : List Nat} {W : World} (h : Marks N0 Ds W) (hD : N0 ≤ D) (hn : ¬ D ∈ Ds) (hK : W.heap[D]? = some (.deferred (some []))) : Marks N0 (D :: Ds) W :=
 ⟨List.nodup_cons.2 ⟨hn, h.1⟩, fun E hE => by
   rcases List.mem_cons.1 hE with rfl | hE
   ·exact ⟨hD, hK⟩
   ·exact h.2 E hE⟩
theorem Marks.lt {N0 : Nat} {Ds : List Nat} {W : World} (h : Marks N0 Ds W) : ∀ D ∈ Ds, D < W.heap.size := fun D hD => (Array.getElem?_eq_some_iff.1 (h.2 D hD).2).1
theorem qel {F : Fence} {n : Nat} {fn : Func} {tmps : Array Value} {R : Ending → World → Prop} {N0 : Nat} : ∀ (Ds : List Nat) (W : World), Marks N0 Ds W → N0 ≤ W.heap.size → (∀ W', Below N0 W W' → LeavesIn F n Tryz.prog fn tmps R [] .returning W') → LeavesInM F n Tryz.prog fn tmps R (Ds.map markD) .returning W
 | [], W, _, _, h => h W (qL0)
 | D :: Ds, W, hm, hN, h => by
  have hD := (hm.2 D (by simp)).2
  have hb : Below N0 W (W.putObj D (.deferred none)) := qal (qL0) (hm.2 D (by simp)).1 hN
  refine ⟨by simp, .inl ⟨D, W.putObj D (.deferred none), rfl, run_takeDeferred hD, ?_⟩⟩
  refine qel Ds _ ⟨(List.nodup_cons.1 hm.1).2, fun E hE => ⟨(hm.2 E (by simp [hE])).1, ?_⟩⟩ (Nat.le_trans hN hb.size) (fun W' hb' => h W' (hb.trans hb'))
  rw [World.putObj_heap_other (by intro e; subst e; exact (List.nodup_cons.1 hm.1).1 hE)]
  exact (hm.2 E (by simp [hE])).2
theorem KpX.set {N B : Nat} {W W' : World} (h : KpX N B W W') (v : Value) : KpX N B W (W'.setCell ⟨B, 0, none⟩ v) :=
 h.trans ⟨rfl, rfl, rfl, by simp, fun k _ hk => Below.heap_setCell W' ⟨B, 0, none⟩ v k (fun e => hk e)⟩
theorem qd7 {n w : Nm} : ∀ (k f : Nat), (∀ j, j < k → underN w (ancN n (f + 1 + j)) = true) → f + k ≤ n.length → deepM n w f = deepM n w (f + k)
 | 0, f, _, _ => rfl
 | k + 1, f, h, hl => by
  rw [qfO (by omega), if_pos (h 0 (by omega)), qd7 k (f + 1) (fun j hj => by
   have := h (j + 1) (by omega)
   rwa [show f + 1 + (j + 1) = f + 1 + 1 + j by omega] at this) (by omega)]
  congr 1; omega
theorem qlx {n w : Nm} {f N : Nat} (hN : N = n.length - f) (h : ∀ x : Fin N, underN w (ancN n (f + 1 + x.val)) = true) : deepM n w f = f + N := by
 by_cases hf : f ≤ n.length
 ·rw [qd7 N f (fun j hj => h ⟨j, hj⟩) (by omega), qeg (by omega)]
 ·rw [qeg (by omega)]; omega
theorem qkK {n w : Nm} {f N : Nat} (hN : N = n.length - f) {p : List (Fin N)} {x : Fin N} (hp : p ++ [x] <+: List.finRange N) (h : ∀ y ∈ p, underN w (ancN n (f + 1 + y.val)) = true) (hx : underN w (ancN n (f + 1 + x.val)) = false) : deepM n w f = f + p.length := by
 obtain ⟨h1, h2⟩ := qc4 hp
 have hxN := x.isLt
 rw [qd7 p.length f (fun j hj => h ⟨j, by omega⟩ (h2 _ (by simp; omega))) (by omega), qfO (by omega), if_neg]
 rw [show f + p.length + 1 = f + 1 + x.val by omega, hx]; simp
theorem qlT (n w : Nm) (f : Nat) : deepM n w f ≤ max f n.length := by
 by_cases hf : f ≤ n.length
 ·have := (qfC (w := w) hf).2.1; omega
 ·rw [qeg (by omega)]; omega
def depthK (o : Nm) (rs : List Rc) (n : Nm) (k : Nat) : Nat := (rs.take k).foldl (fun f r => deepM n r.owner f) o.length
theorem qe1 {o n : Nm} {rs : List Rc} {k : Nat} (h : k < rs.length) : depthK o rs n (k + 1) = deepM n rs[k].owner (depthK o rs n k) := by
 unfold depthK
 rw [List.take_succ_eq_append_getElem h, List.foldl_append]; rfl
theorem qeb (o n : Nm) (rs : List Rc) : ∀ k, depthK o rs n k ≤ max o.length n.length
 | 0 => by unfold depthK; simp; omega
 | k + 1 => by
  by_cases h : k < rs.length
  ·rw [qe1 h]
   have := qlT n rs[k].owner (depthK o rs n k)
   have := qeb o n rs k
   omega
  ·have e : rs.take (k + 1) = rs.take k := by rw [List.take_of_length_le (by omega), List.take_of_length_le (by omega)]
   unfold depthK
   rw [e]; exact qeb o n rs k
def DepI (N B : Nat) (W2 : World) (w n : Nm) (f : Nat) {M : Nat} (pre : List (Fin M)) (W : World) : Prop := KpX N B W2 W ∧ Boxed W B 3 (.int .i64 ((f + pre.length : Nat) : Int)) ∧ ∀ x ∈ pre, underN w (ancN n (f + 1 + x.val)) = true
def DepX (N B : Nat) (W2 : World) (w n : Nm) (f : Nat) {M : Nat} (c : Code) (pre : List (Fin M)) (W : World) : Prop := c = .exit 2 ∧ ∃ p x, pre = p ++ [x] ∧ KpX N B W2 W ∧ Boxed W B 3 (.int .i64 ((f + p.length : Nat) : Int)) ∧ (∀ y ∈ p, underN w (ancN n (f + 1 + y.val)) = true) ∧ underN w (ancN n (f + 1 + x.val)) = false
theorem ql8 {N B : Nat} {W2 : World} {w n : Nm} {f M : Nat} (hB : B < N) (hN : N ≤ W2.heap.size) : OwnFrom N (DepI (M := M) N B W2 w n f) := by
 rintro pre W W' row ⟨h1, h2, h3⟩ hg hr
 exact ⟨h1.trans (KpX.grown (Nat.le_trans hN h1.size) hg (fun r e => .inl (hr r e).1)), h2.kept hg (fun e => by have := (hr B e.symm).1; omega), h3⟩
theorem qlz {N B : Nat} {W2 : World} {w n : Nm} {f M : Nat} (c : Code) (hB : B < N) (hN : N ≤ W2.heap.size) : OwnFrom N (DepX (M := M) N B W2 w n f c) := by
 rintro pre W W' row ⟨h0, p, x, e, h1, h2, h3⟩ hg hr
 exact ⟨h0, p, x, e, h1.trans (KpX.grown (Nat.le_trans hN h1.size) hg (fun r e => .inl (hr r e).1)), h2.kept hg (fun e => by have := (hr B e.symm).1; omega), h3⟩
section
attribute [local go_sem] Oper.semAt_some
theorem qfj {w : World} {za v1 : Option Addr} {zn zc m c : Nat} {o n : Nm} {rs : List Rc} {vn : Value} (h : ZonS w za zn zc v1 m c o rs) (hO : NmAt w vn n) (hko : NmOK n) :
 Calls Tryz.prog 77 #[.agg #[.slice za zn zc, .slice v1 m c], vn] w fun e w' => e = .returned (.int .i64 ((depthM o rs n : Nat) : Int)) ∧ Below w.heap.size w w' := by
 obtain ⟨hz1, hz2, ⟨css, hA, hR⟩, hOK, hl⟩ := h
 have hzn := nm_len hz1
 obtain ⟨hln, hx⟩ : css.length = m ∧ m ≤ c := by
  obtain ⟨a', c', e, h1, _⟩ := id hA
  cases e; exact ⟨rfl, h1⟩
 obtain ⟨ao, co, rfl, -⟩ := nmAt_sl.1 hO
 obtain ⟨qo, hqo⟩ : ∃ q, (List.map strV n).length = q := ⟨_, rfl⟩
 have hqn : n.length = qo := by rw [← hqo, List.length_map]
 rw [hqo] at hO ⊢
 have hqc := nm_cap hO
 have hq1 : qo ≤ 1048576 := by have := hko.1; omega
 have hzq : zn ≤ 1048576 := by have := hz2.1; omega
 have HA := qH0 hA; have HR := qH0 hR; have HLN := qH0 hln; have HOK := qH0 hOK; have HO := qH0 hO; have HKO := qH0 hko
 have HDL := qH0 (show rs.length = m by rw [← hR.1]; exact hln)
 have HZL := qH0 hzn; have HQN := qH0 hqn
 have HFB := qH0 (fun k => show depthK o rs n k ≤ 1048576 by have := qeb o n rs k; have := hz2.1; have := hko.1; omega)
 have HDM := qH0 (show depthM o rs n = depthK o rs n m by unfold depthM depthK; rw [List.take_of_length_le (by have := HDL.out; omega)])
 have HD0 := qH0 (show depthK o rs n 0 = zn by rw [hzn]; rfl)
 clear hz1 hz2 hA hR hOK hzn hln hO hko hqo hqn
 refine (callsIn_wide (n := 8)).1 ?_
 refine callsIn_of_wp_marks Tryz.func77 rfl trivial ?_ rfl
 simp only [Tryz.ntmps77, List.size_toArray, List.length_cons, List.length_nil, Nat.reduceAdd, Nat.reduceSub, Array.replicate_succ, Array.replicate_zero, List.push_toArray, List.append_toArray, List.nil_append, List.cons_append]
 refine wpIn_wide.2 ?_
 obtain ⟨W0, hW0⟩ : ∃ W0, (w.alloc (.cells #[.slice za zn zc, .slice v1 m c] 57)).alloc (.cells #[.int .i64 (zn : Int)] 3) = W0 := ⟨_, rfl⟩
 have HB0 : Hid (Below w.heap.size w W0) := qH0 (by rw [← hW0]; exact ((Below.refl w.heap.size w).alloc (qN0) _).alloc (by simp) _)
 have HZ0 : Hid (W0.heap.size = w.heap.size + 2) := qH0 (by rw [← hW0]; simp)
 have X1 : Hid (Boxed W0 (w.heap.size + 1) 3 (.int .i64 (zn : Int))) := qH0 (by
  have h := Boxed.new (w.alloc (.cells #[.slice za zn zc, .slice v1 m c] 57)) 3 (.int .i64 (zn : Int))
  rw [World.size_alloc] at h
  rw [← hW0]; exact h)
 have x0 : W0.heap[w.heap.size]? = some (.cells #[.slice za zn zc, .slice v1 m c] 57) := by
  rw [← hW0]; exact (Below.heap_alloc _ _ _ (by simp)).trans (knew w _)
 have y1 := kcell x0 1 _ rfl
 clear x0
 go_wp2
 clear hW0 y1
 refine wp_loop (fun a' wr => ∃ (u7 u8 u15 u16 u17 u18 u19 u20 u21 u22 u23 u24 u25 u26 u27 u28 u29 u30 u31 : Value) (ds : List Deferred), (∃ (k : Nat) (Ds : List Nat), u15 = .int .i64 k ∧ ds = Ds.map markD ∧ k ≤ m ∧ Hid (Boxed wr (w.heap.size + 1) 3 (.int .i64 ((depthK o rs n k : Nat) : Int))) ∧ Hid (Below w.heap.size w wr) ∧ Hid (Marks (w.heap.size + 2) Ds wr) ∧ Hid (w.heap.size + 2 ≤ wr.heap.size)) ∧
  a' = { tmps := #[.agg #[.slice za zn zc, .slice v1 m c], .slice ao qo co, .pointer (some ⟨w.heap.size, 0, none⟩), undef, .int .i64 0, .pointer (some ⟨w.heap.size + 1, 0, none⟩), undef, u7, u8, .pointer (some ⟨w.heap.size, 0, none⟩), .slice za zn zc, .int .i64 (zn : Int), .pointer (some ⟨w.heap.size, 1, none⟩), .slice v1 m c, .int .i64 (m : Int), u15, u16, u17, u18, u19, u20, u21, u22, u23, u24, u25, u26, u27, u28, u29, u30, u31, undef], defers := ds }) (fun a' _ => m - (intOf (a'.tmps.getD 15 undef)).toNat) ?_ ?_
 ·refine ⟨_, _, _, _, _, _, _, _, _, _, _, _, _, _, _, _, _, _, _, _, ⟨0, [], rfl, rfl, Nat.zero_le _, ?_, HB0, qH0 (Marks.nil _ _), qH0 (by have := HZ0.out; omega)⟩, rfl⟩
  rw [HD0.out]; exact X1
 intro _ wr hinv
 obtain ⟨u7, u8, u15, u16, u17, u18, u19, u20, u21, u22, u23, u24, u25, u26, u27, u28, u29, u30, u31, ds, ⟨k, Ds, rfl, rfl, hk, HBX, HB, HM, HSZ⟩, ha⟩ := hinv
 subst ha
 by_cases hlt : k < m
 ·have hltz : (k : Int) < (m : Int) := by omega
  have hk1 : k < css.length := by have := HLN.out; omega
  have hk2 : k < rs.length := by have := HDL.out; omega
  obtain ⟨b, off, rfl, hb, hel⟩ := HA.out.elem HR.out.ck (by omega)
  have h0 := HR.out.2 k hk1 hk2
  have hokr := (HOK.out _ (List.getElem_mem hk2)).1
  have hdk := qe1 (o := o) (n := n) hk2
  obtain ⟨d, hd⟩ : ∃ d, rs[k]'hk2 = d := ⟨_, rfl⟩
  rw [hd] at h0 hdk hokr
  have hsh := h0.shape
  obtain ⟨⟨p0, q0, k0⟩, ⟨p3, q3, k3⟩, ⟨p4, q4, k4⟩, ⟨p5, q5, k5⟩, ⟨p6, q6, k6⟩, e0⟩ := hsh
  simp only at e0
  obtain ⟨c0', c1, c2, c3, c4, c5, c6⟩ := hel k hk1 _ _ _ _ _ _ _ e0 wr HB.out
  have hown0 : NmAt w (.slice p0 q0 k0) d.owner := by
   obtain ⟨_, _, _, _, _, e5, g1, _⟩ := h0
   rw [e0] at e5
   simp only [List.cons.injEq, and_true] at e5
   rw [e5.1]; exact g1
  obtain ⟨f, hf⟩ : ∃ f, depthK o rs n k = f := ⟨_, rfl⟩
  have hf1 : f ≤ 1048576 := by rw [← hf]; exact HFB.out k
  rw [hf] at HBX hdk
  obtain ⟨W2, hW2⟩ : ∃ W2, ((wr.alloc (.cells #[.slice p0 q0 k0, .int .u32 (d.ttl : Int), .int .i64 d.data.ty, .slice p3 q3 k3, .slice p4 q4 k4, .slice p5 q5 k5, .slice p6 q6 k6] 103)).alloc (.cells #[.int .i64 ((f : Int) + 1)] 3)).alloc (.cells #[.slice ao qo co] 24) = W2 := ⟨_, rfl⟩
  have hB2 : Below wr.heap.size wr W2 := by rw [← hW2]; exact (((Below.refl wr.heap.size wr).alloc (qN0) _).alloc (by simp) _).alloc (by simp; omega) _
  have hz2 : W2.heap.size = wr.heap.size + 3 := by rw [← hW2]; simp
  have x6 : W2.heap[wr.heap.size]? = some (.cells #[.slice p0 q0 k0, .int .u32 (d.ttl : Int), .int .i64 d.data.ty, .slice p3 q3 k3, .slice p4 q4 k4, .slice p5 q5 k5, .slice p6 q6 k6] 103) := by
   rw [← hW2]; exact (Below.heap_alloc _ _ _ (by simp; omega)).trans ((Below.heap_alloc _ _ _ (by simp)).trans (knew wr _))
  have x7 : Boxed W2 (wr.heap.size + 1) 3 (.int .i64 ((f + 1 : Nat) : Int)) := by
   have h := Boxed.new (wr.alloc (.cells #[.slice p0 q0 k0, .int .u32 (d.ttl : Int), .int .i64 d.data.ty, .slice p3 q3 k3, .slice p4 q4 k4, .slice p5 q5 k5, .slice p6 q6 k6] 103)) 3 (.int .i64 ((f : Int) + 1))
   rw [World.size_alloc] at h
   rw [← hW2]; exact h.alloc _
  have x8 : Boxed W2 (wr.heap.size + 1 + 1) 24 (.slice ao qo co) := by
   have h := Boxed.new ((wr.alloc (.cells #[.slice p0 q0 k0, .int .u32 (d.ttl : Int), .int .i64 d.data.ty, .slice p3 q3 k3, .slice p4 q4 k4, .slice p5 q5 k5, .slice p6 q6 k6] 103)).alloc (.cells #[.int .i64 ((f : Int) + 1)] 3)) 24 (.slice ao qo co)
   rw [World.size_alloc, World.size_alloc] at h
   rw [← hW2]; exact h
  have hfb := (hB2.block _ (by have := HSZ.out; omega)).trans HBX.out
  have hcf := Boxed.cell (Boxed.alloc HBX.out (.cells #[.slice p0 q0 k0, .int .u32 (d.ttl : Int), .int .i64 d.data.ty, .slice p3 q3 k3, .slice p4 q4 k4, .slice p5 q5 k5, .slice p6 q6 k6] 103))
  have hD := fun W => qhj (f + 1) ao qo co W
  simp only [Int.natCast_add, Int.cast_ofNat_Int] at hD
  have HX6 := qH0 x6; have HX7 := qH0 x7; have HX8 := qH0 x8; have HFB2 : Hid (Boxed W2 (w.heap.size + 1) 3 (.int .i64 (f : Int))) := qH0 hfb
  have HB2 := qH0 (qB0 HB.out hB2); have HZ2 := qH0 hz2; have HM2 := qH0 (HM.out.below hB2)
  have HOWN := qH0 hown0; have HOKR := qH0 hokr; have HDK := qH0 hdk; have HF := qH0 hf
  clear h0 hd e0 hel hown0 hokr hdk hf x6 x7 x8 hfb hB2 hz2 hk1 hk2
  generalize (d.ttl : Int) = tr at *
  generalize d.data.ty = ty at *
  go_wp2_with fail
  refine (hD _).mono ?_
  rintro e w' ⟨rfl, rfl⟩
  go_wp2
  refine (wpIn_wide (n := 8)).1 ?_
  clear hW2 hD hcf c0' c1 c2 c3 c4 c5 c6
  obtain ⟨N, hN⟩ : ∃ N, N = qo + 1 - (f + 1) := ⟨_, rfl⟩
  obtain ⟨g, goff, hgo⟩ : ∃ g off, N = 0 ∨ ao = some ⟨g, off, none⟩ := by
   obtain ⟨a', c', e, h⟩ := HO.out.1
   injection e with e1 e2 _
   rcases h with h | ⟨b, off, h, _⟩
   ·exact ⟨0, 0, .inl (by rw [h] at e2; simp at e2; omega)⟩
   ·exact ⟨b, off, .inr (by rw [e1, h])⟩
  have HN := qH0 hN; have HGO := qH0 hgo
  clear hN hgo
  refine wpIn_rangeFunc_ownG rfl (by omega) (gf := 126) (lb := #[.pointer (some ⟨wr.heap.size + 1, 0, none⟩), .pointer (some ⟨wr.heap.size + 1 + 1, 0, none⟩)]) rfl trivial (enters_of Tryz.func126 (by kernel_rfl) rfl)
   (qgm _ (by omega) (wr.heap.size + 1) (wr.heap.size + 1 + 1) ao g goff qo co (f + 1) N HN.out (by omega) HGO.out hqc hq1 (by omega) W2 (by rw [HZ2.out]; omega) (by rw [HZ2.out]; omega) HX7.out.cell HX8.out.cell) qgc (qdo (by rw [HZ2.out]; omega)) (qL0) (fun _ => rfl)
   (DepI W2.heap.size (w.heap.size + 1) W2 d.owner n f)
   (DepX W2.heap.size (w.heap.size + 1) W2 d.owner n f)
   (ql8 (by have := HZ2.out; have := HSZ.out; omega) (qN0))
   (fun k => qlz k (by have := HZ2.out; have := HSZ.out; omega) (qN0))
   ⟨KpX.refl _ _ _, HFB2.out, by simp⟩
   (fun x => { tmps := #[.agg #[.slice za zn zc, .slice (some ⟨b, off, none⟩) m c], .slice ao qo co, .pointer (some ⟨w.heap.size, 0, none⟩), undef, .int .i64 0, .pointer (some ⟨w.heap.size + 1, 0, none⟩), undef, .pointer (some ⟨wr.heap.size, 0, none⟩), (.slice (some ⟨g, goff + (qo - (f + 1 + x.val)), none⟩) (f + 1 + x.val) (co - (qo - (f + 1 + x.val)))), .pointer (some ⟨w.heap.size, 0, none⟩), .slice za zn zc, .int .i64 (zn : Int), .pointer (some ⟨w.heap.size, 1, none⟩), .slice (some ⟨b, off, none⟩) m c, .int .i64 (m : Int), .int .i64 (k : Int), .bool true, .pointer (some ⟨b, off + k * 7, none⟩), .agg #[.slice p0 q0 k0, .int .u32 tr, .int .i64 ty, .slice p3 q3 k3, .slice p4 q4 k4, .slice p5 q5 k5, .slice p6 q6 k6], .int .i64 (f : Int), .int .i64 ((f : Int) + 1), .slice ao qo co, .func (.func 126) #[] #[.pointer (some ⟨wr.heap.size + 1, 0, none⟩), .pointer (some ⟨wr.heap.size + 1 + 1, 0, none⟩)], (.slice (some ⟨g, goff + (qo - (f + 1 + x.val)), none⟩) (f + 1 + x.val) (co - (qo - (f + 1 + x.val)))), u24, u25, u26, u27, u28, u29, u30, u31, undef], defers := [] }) ?assign ?body ?done ?stop
  case assign =>
   intro l x W K hK
   unfold dnV
   gi_wp2
   exact hK
  case body =>
   rintro l pre x W ⟨hK, hBf, hall⟩ hlt
   have hxN := x.isLt
   have hpl : pre.length ≤ 1048576 := by have := HN.out; omega
   obtain ⟨s, hs⟩ : ∃ s, f + 1 + x.val = s := ⟨_, rfl⟩
   have hsq : s ≤ qo := by have := HN.out; omega
   have HS := qH0 hs
   rw [hs]
   obtain rfl : ao = some ⟨g, goff, none⟩ := by
    rcases HGO.out with h | h
    ·omega
    ·exact h
   have hww : Below w.heap.size w W := HB2.out.trans (hK.below (by omega) (by have := HZ2.out; have := HSZ.out; omega))
   have hrb := (hK.block wr.heap.size (by have := HZ2.out; omega) (by have := HSZ.out; omega)).trans HX6.out
   have cr := kcell hrb 0 _ rfl
   have hcf := hBf.cell; have hff := hBf.frozen
   have hnm := nm_anc (HO.out.below hww) (s := s) (by omega) hsq
   rw [show n.drop (qo - s) = ancN n s by unfold ancN; rw [HQN.out]] at hnm
   have hkn := qd6 (.slice p0 q0 k0) (.slice (some ⟨g, goff + (qo - s), none⟩) s (co - (qo - s))) d.owner (ancN n s) _ rfl W (HOWN.out.below hww) hnm HOKR.out ⟨by rw [qcV (by rw [HQN.out]; exact hsq)]; omega, fun y hy => HKO.out.2 y (List.mem_of_mem_drop hy)⟩
   have HKK := qH0 hK; have HBF := qH0 hBf; have HALL := qH0 hall
   obtain ⟨fp, hfp⟩ : ∃ fp, f + pre.length = fp := ⟨_, rfl⟩
   rw [hfp] at hcf hBf HBF
   have hfp2 : fp ≤ 2097152 := by omega
   have HFP := qH0 hfp
   generalize hq : underN d.owner (ancN n s) = q at *
   have HQ := qH0 hq
   generalize co - (qo - s) = c9 at *
   generalize goff + (qo - s) = o9 at *
   clear hrb hnm hK hall hww hs hq hBf hfp
   cases q with
   | true =>
    gi_wp2_with (refine ⟨trivial, ?_⟩; gi_at_call 56; refine (CallsIn.inRound l (callsIn_wide.2 hkn)).mono ?_; rintro e w9 ⟨rfl, hb9⟩; have e1 : Boxed w9 (w.heap.size + 1) 3 (.int .i64 (fp : Int)) := (hb9.block _ HBF.out.lt).trans HBF.out; have hc9 := e1.cell; have hf9 := e1.frozen; have E1 := qH0 e1; clear e1)
    have e : ((f + (pre ++ [x]).length : Nat) : Int) = (fp : Int) + 1 := by have := HFP.out; simp; omega
    refine ⟨((KeepsOthers.of_below hb9).trans (KeepsOthers.setCell _ _ _)).from _, KeepB.trans (hb9.block _ (by have := HKK.out.size; have := HZ2.out; omega)) (KeepB.setCell _ _ (by have := HSZ.out; omega)), (HKK.out.trans (KpX.of_below HKK.out.size hb9)).set _, ?_, ?_⟩
    ·rw [e]; exact E1.out.set _
    ·intro y hy
     rcases List.mem_append.1 hy with hy | hy
     ·exact HALL.out y hy
     ·obtain rfl := List.mem_singleton.1 hy; rw [HS.out]; exact HQ.out
   | false =>
    gi_wp2_with (refine ⟨trivial, ?_⟩; gi_at_call 56; refine (CallsIn.inRound l (callsIn_wide.2 hkn)).mono ?_; rintro e w9 ⟨rfl, hb9⟩)
    have e1 : Boxed w9 (w.heap.size + 1) 3 (.int .i64 (fp : Int)) := (hb9.block _ HBF.out.lt).trans HBF.out
    exact ⟨(KeepsOthers.of_below hb9).from _, rfl, pre, x, rfl, HKK.out.trans (KpX.of_below HKK.out.size hb9), by rw [HFP.out]; exact e1, HALL.out, by rw [HS.out]; exact HQ.out⟩
  case done =>
   rintro D xs W hD rfl ⟨hK, hBf, hall⟩ hKD
   have hfin : depthK o rs n (k + 1) = f + N := by rw [HDK.out]; exact qlx (by have := HN.out; have := HQN.out; omega) (fun x => hall x (List.mem_finRange _))
   rw [List.length_finRange, ← hfin] at hBf
   have HB3 := qH0 hBf
   have HW3 := qH0 (show Below w.heap.size w W from HB2.out.trans (hK.below (by omega) (by have := HZ2.out; have := HSZ.out; omega)))
   have HM3 := qH0 ((HM2.out.kpx hK (by omega) (qN0)).cons (by have := HZ2.out; have := HSZ.out; omega) (fun h => by have := HM2.out.lt D h; omega) hKD)
   have HS3 := qH0 (show w.heap.size + 2 ≤ W.heap.size by have := hK.size; have := HZ2.out; have := HSZ.out; omega)
   clear hK hBf hall hKD hfin
   go_wp2
   refine ⟨⟨_, _, _, _, _, _, _, _, _, _, _, _, _, _, _, _, _, _, _, _, ⟨k + 1, D :: Ds, by go_num, rfl, by omega, HB3, HW3, HM3, HS3⟩, rfl⟩, ?_⟩
   simp [intOf]; omega
  case stop =>
   rintro D c2 pre W hD hp ⟨rfl, p, x, rfl, hK, hBf, hall, hno⟩ hKD
   have hfin : depthK o rs n (k + 1) = f + p.length := by rw [HDK.out]; exact qkK (by have := HN.out; have := HQN.out; omega) hp hall hno
   rw [← hfin] at hBf
   have HB3 := qH0 hBf
   have HW3 := qH0 (show Below w.heap.size w W from HB2.out.trans (hK.below (by omega) (by have := HZ2.out; have := HSZ.out; omega)))
   have HM3 := qH0 ((HM2.out.kpx hK (by omega) (qN0)).cons (by have := HZ2.out; have := HSZ.out; omega) (fun h => by have := HM2.out.lt D h; omega) hKD)
   have HS3 := qH0 (show w.heap.size + 2 ≤ W.heap.size by have := hK.size; have := HZ2.out; have := HSZ.out; omega)
   clear hK hBf hall hno hKD hfin hp
   gi_wp2
   go_wp2
   refine ⟨⟨_, _, _, _, _, _, _, _, _, _, _, _, _, _, _, _, _, _, _, _, ⟨k + 1, D :: Ds, by go_num, rfl, by omega, HB3, HW3, HM3, HS3⟩, rfl⟩, ?_⟩
   simp [intOf]; omega
 ·obtain rfl : k = m := by omega
  have hcf := HBX.out.cell
  go_wp2
  refine qel Ds wr HM.out HSZ.out (fun W' hb => ⟨_, results_tmp rfl _ _ _, by rw [HDM.out]; rfl, ?_⟩)
  exact HB.out.trans (hb.mono (by omega))
end
end Go.Proofs.YtckammgnmgkieaaGreat
namespace Go.Proofs.YtckammgnmgkieaaGreat
set_option linter.unusedVariables false
set_option linter.unusedSimpArgs false
set_option maxRecDepth 100000
set_option maxHeartbeats 8000000
open Go.RowKit Go.Shelf
theorem qiX {w : World} {za v1 : Option Addr} {zn zc m c : Nat} {o n : Nm} {rs : List Rc} {vn : Value} (h : ZonS w za zn zc v1 m c o rs) (hO : NmAt w vn n) (hko : NmOK n) :
 Calls Tryz.prog 37 #[.agg #[.slice za zn zc, .slice v1 m c], vn] w fun e w' => e = .returned (.bool (qaq o rs n)) ∧ Below w.heap.size w w' := by
 have HU := qH0 (fun (W : World) (hb : Below w.heap.size w W) => qfc (h.below hb) (hO.below hb) hko)
 have HC := qH0 (fun (W : World) (hb : Below w.heap.size w W) => qfj (h.below hb) (hO.below hb) hko)
 have HWH := qH0 (show qaq o rs n = (underN n o && decide (depthM o rs n = n.length)) from rfl)
 obtain ⟨ao, co, rfl, -⟩ := nmAt_sl.1 hO
 obtain ⟨qo, hqo⟩ : ∃ q, (List.map strV n).length = q := ⟨_, rfl⟩
 have hqn : n.length = qo := by rw [← hqo, List.length_map]
 rw [hqn] at HWH
 rw [hqo] at HU HC ⊢
 generalize qaq o rs n = res at *
 generalize depthM o rs n = d at *
 have hB0 := (Below.refl w.heap.size w).alloc (qN0) (.cells #[.slice za zn zc, .slice v1 m c] 57)
 have X0 := qH0 (knew w (.cells #[.slice za zn zc, .slice v1 m c] 57))
 have hu := HU.out _ hB0
 have HB0 := qH0 hB0
 clear h hO hko hqo hqn hB0 HU
 go_enter Tryz.func37, Tryz.ntmps37
 go_wp2_with fail
 refine hu.mono ?_
 rintro e w1 ⟨rfl, hb1⟩
 have HB1 := qH0 (qB0 HB0.out hb1)
 have h0 := (hb1.block w.heap.size (qaa X0.out)).trans X0.out
 have y0 := kcell h0 0 _ rfl
 have y1 := kcell h0 1 _ rfl
 clear h0 hb1 hu HB0 X0
 by_cases hu : underN n o = true
 ·rw [hu] at HWH ⊢
  have hc := HC.out w1 HB1.out
  clear hu HC
  go_wp2_with fail
  refine hc.mono ?_
  rintro e w2 ⟨rfl, hb2⟩
  have HB2 := qH0 (qB0 HB1.out hb2)
  clear hc hb2 y0 y1
  by_cases hq : d = qo
  ·have hbb : ((d : Int) == (qo : Int)) = true := by simp; omega
   have H1 : Hid (res = true) := qH0 (by rw [HWH.out]; simp [hq])
   clear HWH hq
   go_wp2
   go_ret
   exact ⟨by rw [H1.out]; rfl, HB2.out⟩
  ·have hbb : ((d : Int) == (qo : Int)) = false := by simp; omega
   have H1 : Hid (res = false) := qH0 (by rw [HWH.out]; simp [hq])
   clear HWH hq
   go_wp2
   go_ret
   exact ⟨by rw [H1.out]; rfl, HB2.out⟩
 ·simp only [Bool.not_eq_true] at hu
  rw [hu] at HWH ⊢
  have H1 : Hid (res = false) := qH0 (by rw [HWH.out]; rfl)
  clear hu HWH HC
  go_wp2
  go_ret
  exact ⟨by rw [H1.out]; rfl, HB1.out⟩
def qjt (w : World) (l : Nm) (e : Ending) (w' : World) : Prop := ∃ a k c, e = .returned (.slice a k c) ∧ NmAt w' (.slice a k c) l ∧ Below w.heap.size w w'
theorem qhd {w : World} {za v1 : Option Addr} {zn zc m c : Nat} {o n : Nm} {rs : List Rc} {vn : Value} (h : ZonS w za zn zc v1 m c o rs) (hO : NmAt w vn n) (hko : NmOK n) :
 Calls Tryz.prog 39 #[.agg #[.slice za zn zc, .slice v1 m c], vn] w (qjt w (encM o rs n)) := by
 have HU := qH0 (fun (W : World) (hb : Below w.heap.size w W) => qfc (h.below hb) (hO.below hb) hko)
 have HC := qH0 (fun (W : World) (hb : Below w.heap.size w W) => qfj (h.below hb) (hO.below hb) hko)
 have HWH := qH0 (show encM o rs n = if underN n o then ancN n (depthM o rs n) else [] from rfl)
 have HDL := qH0 (fun (hu : underN n o = true) => qgK rs (qa1 hu))
 obtain ⟨ao, co, rfl, -⟩ := nmAt_sl.1 hO
 obtain ⟨qo, hqo⟩ : ∃ q, (List.map strV n).length = q := ⟨_, rfl⟩
 have hqn : n.length = qo := by rw [← hqo, List.length_map]
 rw [hqo] at HU HC hO ⊢
 have hqc := nm_cap hO
 have hq1 : qo ≤ 1048576 := by have := hko.1; omega
 have HO := qH0 hO; have HQN := qH0 hqn
 generalize encM o rs n = res at *
 generalize depthM o rs n = d at *
 have hB0 := (Below.refl w.heap.size w).alloc (qN0) (.cells #[.slice za zn zc, .slice v1 m c] 57)
 have X0 := qH0 (knew w (.cells #[.slice za zn zc, .slice v1 m c] 57))
 have hu := HU.out _ hB0
 have HB0 := qH0 hB0
 clear h hO hko hqo hqn hB0 HU
 go_enter Tryz.func39, Tryz.ntmps39
 go_wp2_with fail
 refine hu.mono ?_
 rintro e w1 ⟨rfl, hb1⟩
 have HB1 := qH0 (qB0 HB0.out hb1)
 have h0 := (hb1.block w.heap.size (qaa X0.out)).trans X0.out
 have y0 := kcell h0 0 _ rfl
 have y1 := kcell h0 1 _ rfl
 clear h0 hb1 hu HB0 X0
 by_cases hu : underN n o = true
 ·have hd := HDL.out hu
  rw [hu] at HWH ⊢
  rw [HQN.out] at hd
  have hc := HC.out w1 HB1.out
  clear hu HC HDL
  go_wp2_with fail
  refine hc.mono ?_
  rintro e w2 ⟨rfl, hb2⟩
  have HB2 := qH0 (qB0 HB1.out hb2)
  clear hc hb2 y0 y1
  have hnm := HO.out.below HB2.out
  obtain ⟨k, hk⟩ : ∃ k, k + d = qo := ⟨qo - d, by omega⟩
  have hsub : (qo : Int) - (d : Int) = (k : Int) := by omega
  have hkq : (k : Int) ≤ (qo : Int) := by omega
  have hkc : k ≤ co := by omega
  have hE : Hid (res = n.drop k) := qH0 (by rw [HWH.out, if_pos trivial]; unfold ancN; rw [HQN.out]; congr 1; omega)
  clear HWH
  by_cases h0 : qo = 0
  ·obtain rfl : k = 0 := by omega
   obtain rfl : d = 0 := by omega
   subst h0
   have hn0 : n = [] := List.eq_nil_of_length_eq_zero HQN.out
   rw [hn0, List.drop_nil] at hE
   clear hsub hkq hn0
   cases ao with
   | none =>
    have hc0 : co = 0 := by
     obtain ⟨_, _, _, e, _, h3⟩ := hnm.2
     cases e; exact h3 rfl
    subst hc0
    have hcl := qaZ (.slice none 0 0) [] w2 (nm_nil w2).1 (nm_nil w2).2 (by simp)
    clear hnm
    go_wp2_with (go_at_call 64; refine hcl.mono ?_; rintro e w3 ⟨v3, rfl, ho3, hb3⟩)
    all_goals
     obtain ⟨a3, c3, rfl⟩ := ho3.shape
     have HO3 := qH0 ho3
     have HB3 := qH0 (qB0 HB2.out hb3)
     clear ho3 hb3
     go_wp2
     go_ret
     exact ⟨a3, _, c3, rfl, by rw [hE.out]; exact HO3.out.nmAt, HB3.out⟩
   | some ad =>
    have hcl := qaZ (.slice (some ad) 0 co) [] w2 ⟨_, _, rfl, .inl rfl⟩ ⟨_, _, _, rfl, Nat.zero_le _, fun e => by cases e⟩ (by simp)
    clear hnm
    go_wp2_with (go_at_call 64; refine hcl.mono ?_; rintro e w3 ⟨v3, rfl, ho3, hb3⟩)
    all_goals
     obtain ⟨a3, c3, rfl⟩ := ho3.shape
     have HO3 := qH0 ho3
     have HB3 := qH0 (qB0 HB2.out hb3)
     clear ho3 hb3
     go_wp2
     go_ret
     exact ⟨a3, _, c3, rfl, by rw [hE.out]; exact HO3.out.nmAt, HB3.out⟩
  ·obtain ⟨g, off, rfl, hg⟩ : ∃ g off, ao = some ⟨g, off, none⟩ ∧ True := by
    obtain ⟨a', c', e, h⟩ := hnm.1
    injection e with e1 e2 _
    rcases h with h | ⟨b, off, h, _⟩
    ·exact absurd (show qo = 0 by rw [← HQN.out, h]; rfl) h0
    ·exact ⟨b, off, by rw [e1, h], trivial⟩
   have hns := hnm.1
   rw [← HQN.out] at hns
   have hsd := qcq hns (by rw [HQN.out]; exact hqc) k (by rw [HQN.out]; omega) (co - k)
   rw [HQN.out] at hsd
   have hcl := qaZ (.slice (if co = k then some ⟨g, off, none⟩ else some ⟨g, off + k, none⟩) (qo - k) (co - k)) (n.drop k) w2 hsd (qi9 hqc) (by rw [List.length_drop, HQN.out]; omega)
   have HKD := qH0 hk
   generalize hps : n.drop k = ps at *
   clear hnm hns hsd hps hk hg
   go_wp2_with (go_at_call 64; refine hcl.mono ?_; rintro e w3 ⟨v3, rfl, ho3, hb3⟩)
   all_goals
    obtain ⟨a3, c3, rfl⟩ := ho3.shape
    have HO3 := qH0 ho3
    have HB3 := qH0 (qB0 HB2.out hb3)
    clear ho3 hb3
    go_wp2
    go_ret
    exact ⟨a3, _, c3, rfl, by rw [hE.out]; exact HO3.out.nmAt, HB3.out⟩
 ·simp only [Bool.not_eq_true] at hu
  rw [hu] at HWH ⊢
  have H1 : Hid (res = []) := qH0 (by rw [HWH.out]; rfl)
  clear hu HWH HC HDL
  go_wp2
  go_ret
  exact ⟨none, 0, 0, rfl, by rw [H1.out]; exact nm_nil _, HB1.out⟩
theorem qhF {fn : Func} {t : Tmp} (h : fn.results = #[.cell t 57]) (tmps : Array Value) (W : World) {a : Nat} {x0 x1 : Value} (h0 : x0.oneCell' = true) (h1 : x1.oneCell' = true)
 (ht : tmps.getD t undef = .pointer (some ⟨a, 0, none⟩)) (hb : W.heap[a]? = some (.cells #[x0, x1] 57)) : (results fn tmps).run Tryz.prog W = .ok (.agg #[x0, x1]) W := by
 have ht' : tmps[t]?.getD undef = .pointer (some ⟨a, 0, none⟩) := by rw [← ht]; simp
 have hu : ∀ w, Sem.run Tryz.prog (underlying 57) w = .ok _ w := run_underlying Tryz.underlying57
 have y0 := kcell hb 0 _ rfl; have y1 := kcell hb 1 _ rfl
 simp [results, h, ht', loadVar, asAddr, go_sem, hu, y0, y1, isAgg]
def qjq (w : World) (o : Nm) (rs : List Rc) (e : Ending) (w' : World) : Prop := ∃ za zn zc v1 m c, e = .returned (.agg #[.slice za zn zc, .slice v1 m c]) ∧ ZonS w' za zn zc v1 m c o rs ∧ Below w.heap.size w w'
theorem qh7 {w : World} (vo vl : Value) (o : Nm) (l : List Rc) (hO : NmAt w vo o) (hko : NmOK o) (hL : RowC w vl l) (hOK : ∀ r ∈ l, RcOK r) (hl : l.length ≤ 1048576) :
 Calls Tryz.prog 28 #[vo, vl] w (qjq w o (canonM l)) := by
 have HCL := qH0 (fun (W : World) (hb : Below w.heap.size w W) => qaZ vo o W (hO.below hb).1 (hO.below hb).2 (by have := hko.1; omega))
 have HCN := qH0 (fun (W : World) (hb : Below w.heap.size w W) => by
  obtain ⟨css, h1, h2⟩ := hL.below hb
  exact qgF vl css l W h1 h2 hOK (by rw [h2.1]; exact hl))
 have HOKC := qH0 (qb4 l hOK)
 have HLC := qH0 (show (canonM l).length ≤ 1048576 by have := qaL l; omega)
 obtain ⟨ao, co, rfl, -⟩ := nmAt_sl.1 hO
 obtain ⟨al, cl, el⟩ : ∃ a c, vl = .slice a l.length c := by
  obtain ⟨css, ⟨a, c, e, _⟩, h2⟩ := hL
  exact ⟨a, c, by rw [e, h2.1]⟩
 subst el
 generalize (List.map strV o).length = qo at *
 obtain ⟨C, hC⟩ : ∃ C, canonM l = C := ⟨_, rfl⟩
 unfold qev at HCN
 rw [hC] at HCN HOKC HLC ⊢
 have hB0 := (Below.refl w.heap.size w).alloc (qN0) (.cells #[.slice none 0 0, .slice none 0 0] 57)
 have X0 := qH0 (knew w (.cells #[.slice none 0 0, .slice none 0 0] 57))
 have hc := HCL.out _ hB0
 have HB0 := qH0 hB0
 have HKO := qH0 hko
 clear hO hko hL hOK hl hB0 HCL hC
 go_enter Tryz.func28, Tryz.ntmps28
 go_wp2_with fail
 refine hc.mono ?_
 rintro e w1 ⟨v1, rfl, ho1, hb1⟩
 obtain ⟨a1, c1, rfl⟩ := ho1.shape
 have HB1 := qH0 (qB0 HB0.out hb1)
 have X1 := qH0 ((hb1.block w.heap.size (qaa X0.out)).trans X0.out)
 have HO1 := qH0 (ho1.weaken HB0.out.size)
 have hc2 := HCN.out w1 HB1.out
 clear ho1 hb1 hc HB0 X0 HCN
 go_wp2_with fail
 refine hc2.mono ?_
 rintro e w2 ⟨v2, css, rfl, ho2, hl2, hf2, hb2⟩
 obtain ⟨a2, c2, rfl⟩ := OwnK.shape ho2
 have HB2 := qH0 (qB0 HB1.out hb2)
 have x2 := (hb2.block w.heap.size (qaa X1.out)).trans X1.out
 have HO2 := qH0 (HO1.out.below hb2)
 obtain ⟨m, hm⟩ : ∃ m, css.length = m := ⟨_, rfl⟩
 rw [hm] at ho2 ⊢
 have HR2 := qH0 (And.intro ho2 (And.intro hl2 hf2))
 have HX2 := qH0 x2
 have hsz : w.heap.size < w1.heap.size := qaa X1.out
 have y0 := kcell x2 0 _ rfl; have y1 := kcell x2 1 _ rfl; have z0 := qab x2 0; have z1 := qab x2 1
 have HM := qH0 hm
 clear ho2 hl2 hf2 hb2 hc2 HB1 X1 HO1 x2 hm
 go_wp2_with fail
 have q0 := kset HX2.out 0 (.slice a1 o.length c1)
 have q1 := kset q0 1 (.slice a2 m c2)
 refine bodyPost_ret (qhF rfl _ _ rfl rfl rfl q1) rfl ?_
 obtain ⟨h1, h2, h3⟩ := HR2.out
 have g0 := qah w2 w.heap.size 0 (.slice a1 o.length c1)
 have g1 := qah (w2.setCell ⟨w.heap.size, 0, none⟩ (.slice a1 o.length c1)) w.heap.size 1 (.slice a2 m c2)
 refine ⟨a1, _, c1, a2, m, c2, rfl, ⟨((HO2.out.keptB HX2.out (by decide) 0 _).keptB q0 (by decide) 1 _).nmAt, HKO.out, ⟨css, ?_, ?_⟩, HOKC.out, by have := HM.out; have := HLC.out; omega⟩, ?_⟩
 ·exact SlK.of_own (OwnK.keptB (OwnK.keptB h1 HX2.out (by decide) 0 _) q0 (by decide) 1 _) (fun cs hc => by
   obtain ⟨i, hi, rfl⟩ := List.mem_iff_getElem.1 hc
   exact (h3 i hi (by have := HM.out; omega)).rcAt.len)
 ·exact ⟨by have := HM.out; omega, fun i a b => (((h3 i a b).keptX hsz g0).keptX hsz g1).rcAt⟩
 ·exact (HB2.out.setCell (p := ⟨w.heap.size, 0, none⟩) (qN0) _).setCell (p := ⟨w.heap.size, 1, none⟩) (qN0) _
theorem qfY {l : List Rc} {s : St} (hl : ∀ r ∈ l, RcOK r) (h : s ∈ setsM (canonM l)) : NmOK s.owner ∧ ∀ d ∈ s.data, DatOK d := by
 obtain ⟨y, r, e1, e2, e3⟩ := qdh _ _ (qN0) (qb2 l).up s h
 have hc := qb4 l hl
 have hyr : ∀ z ∈ y :: r, RcOK z := fun z hz => hc z (by
  have : z ∈ (canonM l).filter (belM s.owner s.ty) := by rw [e3]; exact hz
  exact (List.mem_filter.1 this).1)
 rw [e1]
 refine ⟨(hyr y (by simp)).1, fun d hd => ?_⟩
 simp only [stR, List.mem_cons, List.mem_map] at hd
 rcases hd with rfl | ⟨z, hz, rfl⟩
 ·exact (hyr y (by simp)).2.2
 ·exact (hyr z (by simp [hz])).2.2
end Go.Proofs.YtckammgnmgkieaaGreat
