/-
  zone.depth: a range over a function within a loop.
-/
import Derived.Test.YtckammgnmgkieaaGreatMQ35
namespace Go.Proofs.YtckammgnmgkieaaGreat
set_option maxRecDepth 20000
open Go.RowKit Go.Shelf
set_option maxRecDepth 20000
set_option linter.unusedVariables false
set_option linter.unusedSimpArgs false
def markD (D : Nat) : Deferred := { target := .collected D, args := #[] }
def Marks (N0 : Nat) (Ds : List Nat) (W : World) : Prop := Ds.Nodup ∧ ∀ D ∈ Ds, N0 ≤ D ∧ W.heap[D]? = some (.deferred (some []))
theorem Marks.nil (N0 : Nat) (W : World) : Marks N0 [] W := ⟨List.nodup_nil, fun D h => by cases h⟩
theorem Marks.kept {N0 : Nat} {Ds : List Nat} {W W' : World} (h : Marks N0 Ds W) (hk : ∀ D o, N0 ≤ D → W.heap[D]? = some o → o.isCells = false → W'.heap[D]? = some o) : Marks N0 Ds W' :=
  ⟨h.1, fun D hD => ⟨(h.2 D hD).1, hk D _ (h.2 D hD).1 (h.2 D hD).2 rfl⟩⟩
theorem Marks.below {N0 : Nat} {Ds : List Nat} {W W' : World} (h : Marks N0 Ds W) (hb : Below W.heap.size W W') : Marks N0 Ds W' :=
  h.kept fun D o _ hD _ => (hb.block D (Array.getElem?_eq_some_iff.1 hD).1).trans hD
theorem Marks.kpx {N0 N B : Nat} {Ds : List Nat} {W W' : World} (h : Marks N0 Ds W) (hk : KpX N B W W') (hB : B < N0) (hN : W.heap.size ≤ N) : Marks N0 Ds W' :=
  h.kept fun D o hd hD _ => (hk.block D (by have := (Array.getElem?_eq_some_iff.1 hD).1; omega) (by omega)).trans hD
theorem Marks.cons {N0 D : Nat} {Ds : List Nat} {W : World} (h : Marks N0 Ds W) (hD : N0 ≤ D) (hn : ¬ D ∈ Ds) (hK : W.heap[D]? = some (.deferred (some []))) : Marks N0 (D :: Ds) W :=
  ⟨List.nodup_cons.2 ⟨hn, h.1⟩, fun E hE => by
    rcases List.mem_cons.1 hE with rfl | hE
    · exact ⟨hD, hK⟩
    · exact h.2 E hE⟩
theorem Marks.lt {N0 : Nat} {Ds : List Nat} {W : World} (h : Marks N0 Ds W) : ∀ D ∈ Ds, D < W.heap.size := fun D hD => (Array.getElem?_eq_some_iff.1 (h.2 D hD).2).1
theorem leaves_marks {F : Fence} {n : Nat} {fn : Func} {tmps : Array Value} {R : Ending → World → Prop} {N0 : Nat} : ∀ (Ds : List Nat) (W : World), Marks N0 Ds W → N0 ≤ W.heap.size → (∀ W', Below N0 W W' → LeavesIn F n Tryz.prog fn tmps R [] .returning W') → LeavesInM F n Tryz.prog fn tmps R (Ds.map markD) .returning W
  | [], W, _, _, h => h W (Below.refl _ _)
  | D :: Ds, W, hm, hN, h => by
    have hD := (hm.2 D (by simp)).2
    have hb : Below N0 W (W.putObj D (.deferred none)) := below_putO (Below.refl _ _) (hm.2 D (by simp)).1 hN
    refine ⟨by simp, .inl ⟨D, W.putObj D (.deferred none), rfl, run_takeDeferred hD, ?_⟩⟩
    refine leaves_marks Ds _ ⟨(List.nodup_cons.1 hm.1).2, fun E hE => ⟨(hm.2 E (by simp [hE])).1, ?_⟩⟩ (Nat.le_trans hN hb.size) (fun W' hb' => h W' (hb.trans hb'))
    rw [World.putObj_heap_other (by intro e; subst e; exact (List.nodup_cons.1 hm.1).1 hE)]
    exact (hm.2 E (by simp [hE])).2
theorem KpX.set {N B : Nat} {W W' : World} (h : KpX N B W W') (v : Value) : KpX N B W (W'.setCell ⟨B, 0, none⟩ v) :=
  h.trans ⟨rfl, rfl, rfl, by simp, fun k _ hk => Below.heap_setCell W' ⟨B, 0, none⟩ v k (fun e => hk e)⟩
theorem deepM_run {n w : Nm} : ∀ (k f : Nat), (∀ j, j < k → underN w (ancN n (f + 1 + j)) = true) → f + k ≤ n.length → deepM n w f = deepM n w (f + k)
  | 0, f, _, _ => rfl
  | k + 1, f, h, hl => by
    rw [deepM_step (by omega), if_pos (h 0 (by omega)), deepM_run k (f + 1) (fun j hj => by
      have := h (j + 1) (by omega)
      rwa [show f + 1 + (j + 1) = f + 1 + 1 + j by omega] at this) (by omega)]
    congr 1; omega
theorem deep_all {n w : Nm} {f N : Nat} (hN : N = n.length - f) (h : ∀ x : Fin N, underN w (ancN n (f + 1 + x.val)) = true) : deepM n w f = f + N := by
  by_cases hf : f ≤ n.length
  · rw [deepM_run N f (fun j hj => h ⟨j, hj⟩) (by omega), deepM_end (by omega)]
  · rw [deepM_end (by omega)]; omega
theorem deep_stop {n w : Nm} {f N : Nat} (hN : N = n.length - f) {p : List (Fin N)} {x : Fin N} (hp : p ++ [x] <+: List.finRange N) (h : ∀ y ∈ p, underN w (ancN n (f + 1 + y.val)) = true) (hx : underN w (ancN n (f + 1 + x.val)) = false) : deepM n w f = f + p.length := by
  obtain ⟨h1, h2⟩ := finRange_prefix hp
  have hxN := x.isLt
  rw [deepM_run p.length f (fun j hj => h ⟨j, by omega⟩ (h2 _ (by simp; omega))) (by omega), deepM_step (by omega), if_neg]
  rw [show f + p.length + 1 = f + 1 + x.val by omega, hx]; simp
theorem deepM_le (n w : Nm) (f : Nat) : deepM n w f ≤ max f n.length := by
  by_cases hf : f ≤ n.length
  · have := (deepM_spec (w := w) hf).2.1; omega
  · rw [deepM_end (by omega)]; omega
def depthK (o : Nm) (rs : List Rc) (n : Nm) (k : Nat) : Nat := (rs.take k).foldl (fun f r => deepM n r.owner f) o.length
theorem depthK_succ {o n : Nm} {rs : List Rc} {k : Nat} (h : k < rs.length) : depthK o rs n (k + 1) = deepM n rs[k].owner (depthK o rs n k) := by
  unfold depthK
  rw [List.take_succ_eq_append_getElem h, List.foldl_append]; rfl
theorem depthK_le (o n : Nm) (rs : List Rc) : ∀ k, depthK o rs n k ≤ max o.length n.length
  | 0 => by unfold depthK; simp; omega
  | k + 1 => by
    by_cases h : k < rs.length
    · rw [depthK_succ h]
      have := deepM_le n rs[k].owner (depthK o rs n k)
      have := depthK_le o n rs k
      omega
    · have e : rs.take (k + 1) = rs.take k := by rw [List.take_of_length_le (by omega), List.take_of_length_le (by omega)]
      unfold depthK
      rw [e]; exact depthK_le o n rs k
def DepI (N B : Nat) (W2 : World) (w n : Nm) (f : Nat) {M : Nat} (pre : List (Fin M)) (W : World) : Prop := KpX N B W2 W ∧ Boxed W B 3 (.int .i64 ((f + pre.length : Nat) : Int)) ∧ ∀ x ∈ pre, underN w (ancN n (f + 1 + x.val)) = true
def DepX (N B : Nat) (W2 : World) (w n : Nm) (f : Nat) {M : Nat} (c : Code) (pre : List (Fin M)) (W : World) : Prop := c = .exit 2 ∧ ∃ p x, pre = p ++ [x] ∧ KpX N B W2 W ∧ Boxed W B 3 (.int .i64 ((f + p.length : Nat) : Int)) ∧ (∀ y ∈ p, underN w (ancN n (f + 1 + y.val)) = true) ∧ underN w (ancN n (f + 1 + x.val)) = false
theorem depI_own {N B : Nat} {W2 : World} {w n : Nm} {f M : Nat} (hB : B < N) (hN : N ≤ W2.heap.size) : OwnFrom N (DepI (M := M) N B W2 w n f) := by
  rintro pre W W' row ⟨h1, h2, h3⟩ hg hr
  exact ⟨h1.trans (KpX.grown (Nat.le_trans hN h1.size) hg (fun r e => .inl (hr r e).1)), h2.kept hg (fun e => by have := (hr B e.symm).1; omega), h3⟩
theorem depX_own {N B : Nat} {W2 : World} {w n : Nm} {f M : Nat} (c : Code) (hB : B < N) (hN : N ≤ W2.heap.size) : OwnFrom N (DepX (M := M) N B W2 w n f c) := by
  rintro pre W W' row ⟨h0, p, x, e, h1, h2, h3⟩ hg hr
  exact ⟨h0, p, x, e, h1.trans (KpX.grown (Nat.le_trans hN h1.size) hg (fun r e => .inl (hr r e).1)), h2.kept hg (fun e => by have := (hr B e.symm).1; omega), h3⟩
section
attribute [local go_sem] Oper.semAt_some
set_option maxRecDepth 100000 in
set_option maxHeartbeats 16000000 in
theorem zone_depth {w : World} {za v1 : Option Addr} {zn zc m c : Nat} {o n : Nm} {rs : List Rc} {vn : Value} (h : ZonS w za zn zc v1 m c o rs) (hO : NmAt w vn n) (hko : NmOK n) :
    Calls Tryz.prog 77 #[.agg #[.slice za zn zc, .slice v1 m c], vn] w fun e w' => e = .returned (.int .i64 ((depthM o rs n : Nat) : Int)) ∧ Below w.heap.size w w' := by
  obtain ⟨hz1, hz2, ⟨css, hA, hR⟩, hOK, hl⟩ := h
  have hzn := nm_len hz1
  obtain ⟨hln, hx⟩ : css.length = m ∧ m ≤ c := by
    obtain ⟨a', c', e, h1, _⟩ := id hA
    cases e; exact ⟨rfl, h1⟩
  obtain ⟨ao, co, rfl, -⟩ := nmAt_sl.1 hO
  obtain ⟨qo, hqo⟩ : ∃ q, (List.map strV n).length = q := ⟨_, rfl⟩
  have hqn : n.length = qo := by rw [← hqo, List.length_map]
  rw [hqo] at hO ⊢
  have hqc := nm_cap hO
  have hq1 : qo ≤ 1048576 := by have := hko.1; omega
  have hzq : zn ≤ 1048576 := by have := hz2.1; omega
  have HA := Lib.hid hA; have HR := Lib.hid hR; have HLN := Lib.hid hln; have HOK := Lib.hid hOK; have HO := Lib.hid hO; have HKO := Lib.hid hko
  have HDL := Lib.hid (show rs.length = m by rw [← hR.1]; exact hln)
  have HZL := Lib.hid hzn; have HQN := Lib.hid hqn
  have HFB := Lib.hid (fun k => show depthK o rs n k ≤ 1048576 by have := depthK_le o n rs k; have := hz2.1; have := hko.1; omega)
  have HDM := Lib.hid (show depthM o rs n = depthK o rs n m by unfold depthM depthK; rw [List.take_of_length_le (by have := HDL.out; omega)])
  have HD0 := Lib.hid (show depthK o rs n 0 = zn by rw [hzn]; rfl)
  clear hz1 hz2 hA hR hOK hzn hln hO hko hqo hqn
  refine (callsIn_wide (n := 8)).1 ?_
  refine callsIn_of_wp_marks Tryz.func77 rfl trivial ?_ rfl
  simp only [Tryz.ntmps77, List.size_toArray, List.length_cons, List.length_nil, Nat.reduceAdd, Nat.reduceSub, Array.replicate_succ, Array.replicate_zero, List.push_toArray, List.append_toArray, List.nil_append, List.cons_append]
  refine wpIn_wide.2 ?_
  obtain ⟨W0, hW0⟩ : ∃ W0, (w.alloc (.cells #[.slice za zn zc, .slice v1 m c] 57)).alloc (.cells #[.int .i64 (zn : Int)] 3) = W0 := ⟨_, rfl⟩
  have HB0 : Hid (Below w.heap.size w W0) := Lib.hid (by rw [← hW0]; exact ((Below.refl w.heap.size w).alloc (Nat.le_refl _) _).alloc (by simp) _)
  have HZ0 : Hid (W0.heap.size = w.heap.size + 2) := Lib.hid (by rw [← hW0]; simp)
  have X1 : Hid (Boxed W0 (w.heap.size + 1) 3 (.int .i64 (zn : Int))) := Lib.hid (by
    have h := Boxed.new (w.alloc (.cells #[.slice za zn zc, .slice v1 m c] 57)) 3 (.int .i64 (zn : Int))
    rw [World.size_alloc] at h
    rw [← hW0]; exact h)
  have x0 : W0.heap[w.heap.size]? = some (.cells #[.slice za zn zc, .slice v1 m c] 57) := by
    rw [← hW0]; exact (Below.heap_alloc _ _ _ (by simp)).trans (knew w _)
  have y1 := kcell x0 1 _ rfl
  clear x0
  go_wp2
  clear hW0 y1
  refine wp_loop (fun a' wr => ∃ (u7 u8 u15 u16 u17 u18 u19 u20 u21 u22 u23 u24 u25 u26 u27 u28 u29 u30 u31 : Value) (ds : List Deferred), (∃ (k : Nat) (Ds : List Nat), u15 = .int .i64 k ∧ ds = Ds.map markD ∧ k ≤ m ∧ Hid (Boxed wr (w.heap.size + 1) 3 (.int .i64 ((depthK o rs n k : Nat) : Int))) ∧ Hid (Below w.heap.size w wr) ∧ Hid (Marks (w.heap.size + 2) Ds wr) ∧ Hid (w.heap.size + 2 ≤ wr.heap.size)) ∧
      a' = { tmps := #[.agg #[.slice za zn zc, .slice v1 m c], .slice ao qo co, .pointer (some ⟨w.heap.size, 0, none⟩), undef, .int .i64 0, .pointer (some ⟨w.heap.size + 1, 0, none⟩), undef, u7, u8, .pointer (some ⟨w.heap.size, 0, none⟩), .slice za zn zc, .int .i64 (zn : Int), .pointer (some ⟨w.heap.size, 1, none⟩), .slice v1 m c, .int .i64 (m : Int), u15, u16, u17, u18, u19, u20, u21, u22, u23, u24, u25, u26, u27, u28, u29, u30, u31, undef], defers := ds }) (fun a' _ => m - (intOf (a'.tmps.getD 15 undef)).toNat) ?_ ?_
  · refine ⟨_, _, _, _, _, _, _, _, _, _, _, _, _, _, _, _, _, _, _, _, ⟨0, [], rfl, rfl, Nat.zero_le _, ?_, HB0, Lib.hid (Marks.nil _ _), Lib.hid (by have := HZ0.out; omega)⟩, rfl⟩
    rw [HD0.out]; exact X1
  intro _ wr hinv
  obtain ⟨u7, u8, u15, u16, u17, u18, u19, u20, u21, u22, u23, u24, u25, u26, u27, u28, u29, u30, u31, ds, ⟨k, Ds, rfl, rfl, hk, HBX, HB, HM, HSZ⟩, ha⟩ := hinv
  subst ha
  by_cases hlt : k < m
  · have hltz : (k : Int) < (m : Int) := by omega
    have hk1 : k < css.length := by have := HLN.out; omega
    have hk2 : k < rs.length := by have := HDL.out; omega
    obtain ⟨b, off, rfl, hb, hel⟩ := HA.out.elem HR.out.ck (by omega)
    have h0 := HR.out.2 k hk1 hk2
    have hokr := (HOK.out _ (List.getElem_mem hk2)).1
    have hdk := depthK_succ (o := o) (n := n) hk2
    obtain ⟨d, hd⟩ : ∃ d, rs[k]'hk2 = d := ⟨_, rfl⟩
    rw [hd] at h0 hdk hokr
    have hsh := h0.shape
    obtain ⟨⟨p0, q0, k0⟩, ⟨p3, q3, k3⟩, ⟨p4, q4, k4⟩, ⟨p5, q5, k5⟩, ⟨p6, q6, k6⟩, e0⟩ := hsh
    simp only at e0
    obtain ⟨c0', c1, c2, c3, c4, c5, c6⟩ := hel k hk1 _ _ _ _ _ _ _ e0 wr HB.out
    have hown0 : NmAt w (.slice p0 q0 k0) d.owner := by
      obtain ⟨_, _, _, _, _, e5, g1, _⟩ := h0
      rw [e0] at e5
      simp only [List.cons.injEq, and_true] at e5
      rw [e5.1]; exact g1
    obtain ⟨f, hf⟩ : ∃ f, depthK o rs n k = f := ⟨_, rfl⟩
    have hf1 : f ≤ 1048576 := by rw [← hf]; exact HFB.out k
    rw [hf] at HBX hdk
    obtain ⟨W2, hW2⟩ : ∃ W2, ((wr.alloc (.cells #[.slice p0 q0 k0, .int .u32 (d.ttl : Int), .int .i64 d.data.ty, .slice p3 q3 k3, .slice p4 q4 k4, .slice p5 q5 k5, .slice p6 q6 k6] 103)).alloc (.cells #[.int .i64 ((f : Int) + 1)] 3)).alloc (.cells #[.slice ao qo co] 24) = W2 := ⟨_, rfl⟩
    have hB2 : Below wr.heap.size wr W2 := by rw [← hW2]; exact (((Below.refl wr.heap.size wr).alloc (Nat.le_refl _) _).alloc (by simp) _).alloc (by simp; omega) _
    have hz2 : W2.heap.size = wr.heap.size + 3 := by rw [← hW2]; simp
    have x6 : W2.heap[wr.heap.size]? = some (.cells #[.slice p0 q0 k0, .int .u32 (d.ttl : Int), .int .i64 d.data.ty, .slice p3 q3 k3, .slice p4 q4 k4, .slice p5 q5 k5, .slice p6 q6 k6] 103) := by
      rw [← hW2]; exact (Below.heap_alloc _ _ _ (by simp; omega)).trans ((Below.heap_alloc _ _ _ (by simp)).trans (knew wr _))
    have x7 : Boxed W2 (wr.heap.size + 1) 3 (.int .i64 ((f + 1 : Nat) : Int)) := by
      have h := Boxed.new (wr.alloc (.cells #[.slice p0 q0 k0, .int .u32 (d.ttl : Int), .int .i64 d.data.ty, .slice p3 q3 k3, .slice p4 q4 k4, .slice p5 q5 k5, .slice p6 q6 k6] 103)) 3 (.int .i64 ((f : Int) + 1))
      rw [World.size_alloc] at h
      rw [← hW2]; exact h.alloc _
    have x8 : Boxed W2 (wr.heap.size + 1 + 1) 24 (.slice ao qo co) := by
      have h := Boxed.new ((wr.alloc (.cells #[.slice p0 q0 k0, .int .u32 (d.ttl : Int), .int .i64 d.data.ty, .slice p3 q3 k3, .slice p4 q4 k4, .slice p5 q5 k5, .slice p6 q6 k6] 103)).alloc (.cells #[.int .i64 ((f : Int) + 1)] 3)) 24 (.slice ao qo co)
      rw [World.size_alloc, World.size_alloc] at h
      rw [← hW2]; exact h
    have hfb := (hB2.block _ (by have := HSZ.out; omega)).trans HBX.out
    have hcf := Boxed.cell (Boxed.alloc HBX.out (.cells #[.slice p0 q0 k0, .int .u32 (d.ttl : Int), .int .i64 d.data.ty, .slice p3 q3 k3, .slice p4 q4 k4, .slice p5 q5 k5, .slice p6 q6 k6] 103))
    have hD := fun W => zone_downward (f + 1) ao qo co W
    simp only [Int.natCast_add, Int.cast_ofNat_Int] at hD
    have HX6 := Lib.hid x6; have HX7 := Lib.hid x7; have HX8 := Lib.hid x8; have HFB2 : Hid (Boxed W2 (w.heap.size + 1) 3 (.int .i64 (f : Int))) := Lib.hid hfb
    have HB2 := Lib.hid (HB.out.trans (hB2.mono HB.out.size)); have HZ2 := Lib.hid hz2; have HM2 := Lib.hid (HM.out.below hB2)
    have HOWN := Lib.hid hown0; have HOKR := Lib.hid hokr; have HDK := Lib.hid hdk; have HF := Lib.hid hf
    clear h0 hd e0 hel hown0 hokr hdk hf x6 x7 x8 hfb hB2 hz2 hk1 hk2
    generalize (d.ttl : Int) = tr at *
    generalize d.data.ty = ty at *
    go_wp2_with fail
    refine (hD _).mono ?_
    rintro e w' ⟨rfl, rfl⟩
    go_wp2
    refine (wpIn_wide (n := 8)).1 ?_
    clear hW2 hD hcf c0' c1 c2 c3 c4 c5 c6
    obtain ⟨N, hN⟩ : ∃ N, N = qo + 1 - (f + 1) := ⟨_, rfl⟩
    obtain ⟨g, goff, hgo⟩ : ∃ g off, N = 0 ∨ ao = some ⟨g, off, none⟩ := by
      obtain ⟨a', c', e, h⟩ := HO.out.1
      injection e with e1 e2 _
      rcases h with h | ⟨b, off, h, _⟩
      · exact ⟨0, 0, .inl (by rw [h] at e2; simp at e2; omega)⟩
      · exact ⟨b, off, .inr (by rw [e1, h])⟩
    have HN := Lib.hid hN; have HGO := Lib.hid hgo
    clear hN hgo
    refine wpIn_rangeFunc_ownG rfl (by omega) (gf := 126) (lb := #[.pointer (some ⟨wr.heap.size + 1, 0, none⟩), .pointer (some ⟨wr.heap.size + 1 + 1, 0, none⟩)]) rfl trivial (enters_of Tryz.func126 (by kernel_rfl) rfl)
      (downward_stops _ (by omega) (wr.heap.size + 1) (wr.heap.size + 1 + 1) ao g goff qo co (f + 1) N HN.out (by omega) HGO.out hqc hq1 (by omega) W2 (by rw [HZ2.out]; omega) (by rw [HZ2.out]; omega) HX7.out.cell HX8.out.cell) keepB_t (keepB_b (by rw [HZ2.out]; omega)) (Below.refl _ _) (fun _ => rfl)
      (DepI W2.heap.size (w.heap.size + 1) W2 d.owner n f)
      (DepX W2.heap.size (w.heap.size + 1) W2 d.owner n f)
      (depI_own (by have := HZ2.out; have := HSZ.out; omega) (Nat.le_refl _))
      (fun k => depX_own k (by have := HZ2.out; have := HSZ.out; omega) (Nat.le_refl _))
      ⟨KpX.refl _ _ _, HFB2.out, by simp⟩
      (fun x => { tmps := #[.agg #[.slice za zn zc, .slice (some ⟨b, off, none⟩) m c], .slice ao qo co, .pointer (some ⟨w.heap.size, 0, none⟩), undef, .int .i64 0, .pointer (some ⟨w.heap.size + 1, 0, none⟩), undef, .pointer (some ⟨wr.heap.size, 0, none⟩), (.slice (some ⟨g, goff + (qo - (f + 1 + x.val)), none⟩) (f + 1 + x.val) (co - (qo - (f + 1 + x.val)))), .pointer (some ⟨w.heap.size, 0, none⟩), .slice za zn zc, .int .i64 (zn : Int), .pointer (some ⟨w.heap.size, 1, none⟩), .slice (some ⟨b, off, none⟩) m c, .int .i64 (m : Int), .int .i64 (k : Int), .bool true, .pointer (some ⟨b, off + k * 7, none⟩), .agg #[.slice p0 q0 k0, .int .u32 tr, .int .i64 ty, .slice p3 q3 k3, .slice p4 q4 k4, .slice p5 q5 k5, .slice p6 q6 k6], .int .i64 (f : Int), .int .i64 ((f : Int) + 1), .slice ao qo co, .func (.func 126) #[] #[.pointer (some ⟨wr.heap.size + 1, 0, none⟩), .pointer (some ⟨wr.heap.size + 1 + 1, 0, none⟩)], (.slice (some ⟨g, goff + (qo - (f + 1 + x.val)), none⟩) (f + 1 + x.val) (co - (qo - (f + 1 + x.val)))), u24, u25, u26, u27, u28, u29, u30, u31, undef], defers := [] }) ?assign ?body ?done ?stop
    case assign =>
      intro l x W K hK
      unfold dnV
      gi_wp2
      exact hK
    case body =>
      rintro l pre x W ⟨hK, hBf, hall⟩ hlt
      have hxN := x.isLt
      have hpl : pre.length ≤ 1048576 := by have := HN.out; omega
      obtain ⟨s, hs⟩ : ∃ s, f + 1 + x.val = s := ⟨_, rfl⟩
      have hsq : s ≤ qo := by have := HN.out; omega
      have HS := Lib.hid hs
      rw [hs]
      obtain rfl : ao = some ⟨g, goff, none⟩ := by
        rcases HGO.out with h | h
        · omega
        · exact h
      have hww : Below w.heap.size w W := HB2.out.trans (hK.below (by omega) (by have := HZ2.out; have := HSZ.out; omega))
      have hrb := (hK.block wr.heap.size (by have := HZ2.out; omega) (by have := HSZ.out; omega)).trans HX6.out
      have cr := kcell hrb 0 _ rfl
      have hcf := hBf.cell; have hff := hBf.frozen
      have hnm := nm_anc (HO.out.below hww) (s := s) (by omega) hsq
      rw [show n.drop (qo - s) = ancN n s by unfold ancN; rw [HQN.out]] at hnm
      have hkn := kn_NUnder (.slice p0 q0 k0) (.slice (some ⟨g, goff + (qo - s), none⟩) s (co - (qo - s))) d.owner (ancN n s) _ rfl W (HOWN.out.below hww) hnm HOKR.out ⟨by rw [ancN_len (by rw [HQN.out]; exact hsq)]; omega, fun y hy => HKO.out.2 y (List.mem_of_mem_drop hy)⟩
      have HKK := Lib.hid hK; have HBF := Lib.hid hBf; have HALL := Lib.hid hall
      obtain ⟨fp, hfp⟩ : ∃ fp, f + pre.length = fp := ⟨_, rfl⟩
      rw [hfp] at hcf hBf HBF
      have hfp2 : fp ≤ 2097152 := by omega
      have HFP := Lib.hid hfp
      generalize hq : underN d.owner (ancN n s) = q at *
      have HQ := Lib.hid hq
      generalize co - (qo - s) = c9 at *
      generalize goff + (qo - s) = o9 at *
      clear hrb hnm hK hall hww hs hq hBf hfp
      cases q with
      | true =>
        gi_wp2_with (refine ⟨trivial, ?_⟩; gi_at_call 56; refine (CallsIn.inRound l (callsIn_wide.2 hkn)).mono ?_; rintro e w9 ⟨rfl, hb9⟩; have e1 : Boxed w9 (w.heap.size + 1) 3 (.int .i64 (fp : Int)) := (hb9.block _ HBF.out.lt).trans HBF.out; have hc9 := e1.cell; have hf9 := e1.frozen; have E1 := Lib.hid e1; clear e1)
        have e : ((f + (pre ++ [x]).length : Nat) : Int) = (fp : Int) + 1 := by have := HFP.out; simp; omega
        refine ⟨((KeepsOthers.of_below hb9).trans (KeepsOthers.setCell _ _ _)).from _, KeepB.trans (hb9.block _ (by have := HKK.out.size; have := HZ2.out; omega)) (KeepB.setCell _ _ (by have := HSZ.out; omega)), (HKK.out.trans (KpX.of_below HKK.out.size hb9)).set _, ?_, ?_⟩
        · rw [e]; exact E1.out.set _
        · intro y hy
          rcases List.mem_append.1 hy with hy | hy
          · exact HALL.out y hy
          · obtain rfl := List.mem_singleton.1 hy; rw [HS.out]; exact HQ.out
      | false =>
        gi_wp2_with (refine ⟨trivial, ?_⟩; gi_at_call 56; refine (CallsIn.inRound l (callsIn_wide.2 hkn)).mono ?_; rintro e w9 ⟨rfl, hb9⟩)
        have e1 : Boxed w9 (w.heap.size + 1) 3 (.int .i64 (fp : Int)) := (hb9.block _ HBF.out.lt).trans HBF.out
        exact ⟨(KeepsOthers.of_below hb9).from _, rfl, pre, x, rfl, HKK.out.trans (KpX.of_below HKK.out.size hb9), by rw [HFP.out]; exact e1, HALL.out, by rw [HS.out]; exact HQ.out⟩
    case done =>
      rintro D xs W hD rfl ⟨hK, hBf, hall⟩ hKD
      have hfin : depthK o rs n (k + 1) = f + N := by rw [HDK.out]; exact deep_all (by have := HN.out; have := HQN.out; omega) (fun x => hall x (List.mem_finRange _))
      rw [List.length_finRange, ← hfin] at hBf
      have HB3 := Lib.hid hBf
      have HW3 := Lib.hid (show Below w.heap.size w W from HB2.out.trans (hK.below (by omega) (by have := HZ2.out; have := HSZ.out; omega)))
      have HM3 := Lib.hid ((HM2.out.kpx hK (by omega) (Nat.le_refl _)).cons (by have := HZ2.out; have := HSZ.out; omega) (fun h => by have := HM2.out.lt D h; omega) hKD)
      have HS3 := Lib.hid (show w.heap.size + 2 ≤ W.heap.size by have := hK.size; have := HZ2.out; have := HSZ.out; omega)
      clear hK hBf hall hKD hfin
      go_wp2
      refine ⟨⟨_, _, _, _, _, _, _, _, _, _, _, _, _, _, _, _, _, _, _, _, ⟨k + 1, D :: Ds, by go_num, rfl, by omega, HB3, HW3, HM3, HS3⟩, rfl⟩, ?_⟩
      simp [intOf]; omega
    case stop =>
      rintro D c2 pre W hD hp ⟨rfl, p, x, rfl, hK, hBf, hall, hno⟩ hKD
      have hfin : depthK o rs n (k + 1) = f + p.length := by rw [HDK.out]; exact deep_stop (by have := HN.out; have := HQN.out; omega) hp hall hno
      rw [← hfin] at hBf
      have HB3 := Lib.hid hBf
      have HW3 := Lib.hid (show Below w.heap.size w W from HB2.out.trans (hK.below (by omega) (by have := HZ2.out; have := HSZ.out; omega)))
      have HM3 := Lib.hid ((HM2.out.kpx hK (by omega) (Nat.le_refl _)).cons (by have := HZ2.out; have := HSZ.out; omega) (fun h => by have := HM2.out.lt D h; omega) hKD)
      have HS3 := Lib.hid (show w.heap.size + 2 ≤ W.heap.size by have := hK.size; have := HZ2.out; have := HSZ.out; omega)
      clear hK hBf hall hno hKD hfin hp
      gi_wp2
      go_wp2
      refine ⟨⟨_, _, _, _, _, _, _, _, _, _, _, _, _, _, _, _, _, _, _, _, ⟨k + 1, D :: Ds, by go_num, rfl, by omega, HB3, HW3, HM3, HS3⟩, rfl⟩, ?_⟩
      simp [intOf]; omega
  · obtain rfl : k = m := by omega
    have hcf := HBX.out.cell
    go_wp2
    refine leaves_marks Ds wr HM.out HSZ.out (fun W' hb => ⟨_, results_tmp rfl _ _ _, by rw [HDM.out]; rfl, ?_⟩)
    exact HB.out.trans (hb.mono (by omega))
end
end Go.Proofs.YtckammgnmgkieaaGreat

/-
  zone.Exists, zone.Encloser.
-/
namespace Go.Proofs.YtckammgnmgkieaaGreat
set_option maxRecDepth 20000
open Go.RowKit Go.Shelf
set_option maxRecDepth 20000
set_option linter.unusedVariables false
set_option linter.unusedSimpArgs false
set_option maxRecDepth 100000 in
set_option maxHeartbeats 8000000 in
theorem zone_Exists {w : World} {za v1 : Option Addr} {zn zc m c : Nat} {o n : Nm} {rs : List Rc} {vn : Value} (h : ZonS w za zn zc v1 m c o rs) (hO : NmAt w vn n) (hko : NmOK n) :
    Calls Tryz.prog 37 #[.agg #[.slice za zn zc, .slice v1 m c], vn] w fun e w' => e = .returned (.bool (existsM o rs n)) ∧ Below w.heap.size w w' := by
  have HU := Lib.hid (fun (W : World) (hb : Below w.heap.size w W) => zs_under (h.below hb) (hO.below hb) hko)
  have HC := Lib.hid (fun (W : World) (hb : Below w.heap.size w W) => zone_depth (h.below hb) (hO.below hb) hko)
  have HWH := Lib.hid (show existsM o rs n = (underN n o && decide (depthM o rs n = n.length)) from rfl)
  obtain ⟨ao, co, rfl, -⟩ := nmAt_sl.1 hO
  obtain ⟨qo, hqo⟩ : ∃ q, (List.map strV n).length = q := ⟨_, rfl⟩
  have hqn : n.length = qo := by rw [← hqo, List.length_map]
  rw [hqn] at HWH
  rw [hqo] at HU HC ⊢
  generalize existsM o rs n = res at *
  generalize depthM o rs n = d at *
  have hB0 := (Below.refl w.heap.size w).alloc (Nat.le_refl _) (.cells #[.slice za zn zc, .slice v1 m c] 57)
  have X0 := Lib.hid (knew w (.cells #[.slice za zn zc, .slice v1 m c] 57))
  have hu := HU.out _ hB0
  have HB0 := Lib.hid hB0
  clear h hO hko hqo hqn hB0 HU
  go_enter Tryz.func37, Tryz.ntmps37
  go_wp2_with fail
  refine hu.mono ?_
  rintro e w1 ⟨rfl, hb1⟩
  have HB1 := Lib.hid (HB0.out.trans (hb1.mono HB0.out.size))
  have h0 := (hb1.block w.heap.size (kblock_lt X0.out)).trans X0.out
  have y0 := kcell h0 0 _ rfl
  have y1 := kcell h0 1 _ rfl
  clear h0 hb1 hu HB0 X0
  by_cases hu : underN n o = true
  · rw [hu] at HWH ⊢
    have hc := HC.out w1 HB1.out
    clear hu HC
    go_wp2_with fail
    refine hc.mono ?_
    rintro e w2 ⟨rfl, hb2⟩
    have HB2 := Lib.hid (HB1.out.trans (hb2.mono HB1.out.size))
    clear hc hb2 y0 y1
    by_cases hq : d = qo
    · have hbb : ((d : Int) == (qo : Int)) = true := by simp; omega
      have H1 : Hid (res = true) := Lib.hid (by rw [HWH.out]; simp [hq])
      clear HWH hq
      go_wp2
      go_ret
      exact ⟨by rw [H1.out]; rfl, HB2.out⟩
    · have hbb : ((d : Int) == (qo : Int)) = false := by simp; omega
      have H1 : Hid (res = false) := Lib.hid (by rw [HWH.out]; simp [hq])
      clear HWH hq
      go_wp2
      go_ret
      exact ⟨by rw [H1.out]; rfl, HB2.out⟩
  · simp only [Bool.not_eq_true] at hu
    rw [hu] at HWH ⊢
    have H1 : Hid (res = false) := Lib.hid (by rw [HWH.out]; rfl)
    clear hu HWH HC
    go_wp2
    go_ret
    exact ⟨by rw [H1.out]; rfl, HB1.out⟩
def EncPost (w : World) (l : Nm) (e : Ending) (w' : World) : Prop := ∃ a k c, e = .returned (.slice a k c) ∧ NmAt w' (.slice a k c) l ∧ Below w.heap.size w w'
set_option maxRecDepth 100000 in
set_option maxHeartbeats 8000000 in
theorem zone_Encloser {w : World} {za v1 : Option Addr} {zn zc m c : Nat} {o n : Nm} {rs : List Rc} {vn : Value} (h : ZonS w za zn zc v1 m c o rs) (hO : NmAt w vn n) (hko : NmOK n) :
    Calls Tryz.prog 39 #[.agg #[.slice za zn zc, .slice v1 m c], vn] w (EncPost w (encM o rs n)) := by
  have HU := Lib.hid (fun (W : World) (hb : Below w.heap.size w W) => zs_under (h.below hb) (hO.below hb) hko)
  have HC := Lib.hid (fun (W : World) (hb : Below w.heap.size w W) => zone_depth (h.below hb) (hO.below hb) hko)
  have HWH := Lib.hid (show encM o rs n = if underN n o then ancN n (depthM o rs n) else [] from rfl)
  have HDL := Lib.hid (fun (hu : underN n o = true) => depthM_le rs (underN_len hu))
  obtain ⟨ao, co, rfl, -⟩ := nmAt_sl.1 hO
  obtain ⟨qo, hqo⟩ : ∃ q, (List.map strV n).length = q := ⟨_, rfl⟩
  have hqn : n.length = qo := by rw [← hqo, List.length_map]
  rw [hqo] at HU HC hO ⊢
  have hqc := nm_cap hO
  have hq1 : qo ≤ 1048576 := by have := hko.1; omega
  have HO := Lib.hid hO; have HQN := Lib.hid hqn
  generalize encM o rs n = res at *
  generalize depthM o rs n = d at *
  have hB0 := (Below.refl w.heap.size w).alloc (Nat.le_refl _) (.cells #[.slice za zn zc, .slice v1 m c] 57)
  have X0 := Lib.hid (knew w (.cells #[.slice za zn zc, .slice v1 m c] 57))
  have hu := HU.out _ hB0
  have HB0 := Lib.hid hB0
  clear h hO hko hqo hqn hB0 HU
  go_enter Tryz.func39, Tryz.ntmps39
  go_wp2_with fail
  refine hu.mono ?_
  rintro e w1 ⟨rfl, hb1⟩
  have HB1 := Lib.hid (HB0.out.trans (hb1.mono HB0.out.size))
  have h0 := (hb1.block w.heap.size (kblock_lt X0.out)).trans X0.out
  have y0 := kcell h0 0 _ rfl
  have y1 := kcell h0 1 _ rfl
  clear h0 hb1 hu HB0 X0
  by_cases hu : underN n o = true
  · have hd := HDL.out hu
    rw [hu] at HWH ⊢
    rw [HQN.out] at hd
    have hc := HC.out w1 HB1.out
    clear hu HC HDL
    go_wp2_with fail
    refine hc.mono ?_
    rintro e w2 ⟨rfl, hb2⟩
    have HB2 := Lib.hid (HB1.out.trans (hb2.mono HB1.out.size))
    clear hc hb2 y0 y1
    have hnm := HO.out.below HB2.out
    obtain ⟨k, hk⟩ : ∃ k, k + d = qo := ⟨qo - d, by omega⟩
    have hsub : (qo : Int) - (d : Int) = (k : Int) := by omega
    have hkq : (k : Int) ≤ (qo : Int) := by omega
    have hkc : k ≤ co := by omega
    have hE : Hid (res = n.drop k) := Lib.hid (by rw [HWH.out, if_pos trivial]; unfold ancN; rw [HQN.out]; congr 1; omega)
    clear HWH
    by_cases h0 : qo = 0
    · obtain rfl : k = 0 := by omega
      obtain rfl : d = 0 := by omega
      subst h0
      have hn0 : n = [] := List.eq_nil_of_length_eq_zero HQN.out
      rw [hn0, List.drop_nil] at hE
      clear hsub hkq hn0
      cases ao with
      | none =>
        have hc0 : co = 0 := by
          obtain ⟨_, _, _, e, _, h3⟩ := hnm.2
          cases e; exact h3 rfl
        subst hc0
        have hcl := clone_Name (.slice none 0 0) [] w2 (nm_nil w2).1 (nm_nil w2).2 (by simp)
        clear hnm
        go_wp2_with (go_at_call 64; refine hcl.mono ?_; rintro e w3 ⟨v3, rfl, ho3, hb3⟩)
        all_goals
          obtain ⟨a3, c3, rfl⟩ := ho3.shape
          have HO3 := Lib.hid ho3
          have HB3 := Lib.hid (HB2.out.trans (hb3.mono HB2.out.size))
          clear ho3 hb3
          go_wp2
          go_ret
          exact ⟨a3, _, c3, rfl, by rw [hE.out]; exact HO3.out.nmAt, HB3.out⟩

      | some ad =>
        have hcl := clone_Name (.slice (some ad) 0 co) [] w2 ⟨_, _, rfl, .inl rfl⟩ ⟨_, _, _, rfl, Nat.zero_le _, fun e => by cases e⟩ (by simp)
        clear hnm
        go_wp2_with (go_at_call 64; refine hcl.mono ?_; rintro e w3 ⟨v3, rfl, ho3, hb3⟩)
        all_goals
          obtain ⟨a3, c3, rfl⟩ := ho3.shape
          have HO3 := Lib.hid ho3
          have HB3 := Lib.hid (HB2.out.trans (hb3.mono HB2.out.size))
          clear ho3 hb3
          go_wp2
          go_ret
          exact ⟨a3, _, c3, rfl, by rw [hE.out]; exact HO3.out.nmAt, HB3.out⟩

    · obtain ⟨g, off, rfl, hg⟩ : ∃ g off, ao = some ⟨g, off, none⟩ ∧ True := by
        obtain ⟨a', c', e, h⟩ := hnm.1
        injection e with e1 e2 _
        rcases h with h | ⟨b, off, h, _⟩
        · exact absurd (show qo = 0 by rw [← HQN.out, h]; rfl) h0
        · exact ⟨b, off, by rw [e1, h], trivial⟩
      have hns := hnm.1
      rw [← HQN.out] at hns
      have hsd := strs_drop hns (by rw [HQN.out]; exact hqc) k (by rw [HQN.out]; omega) (co - k)
      rw [HQN.out] at hsd
      have hcl := clone_Name (.slice (if co = k then some ⟨g, off, none⟩ else some ⟨g, off + k, none⟩) (qo - k) (co - k)) (n.drop k) w2 hsd (drop_ok hqc) (by rw [List.length_drop, HQN.out]; omega)
      have HKD := Lib.hid hk
      generalize hps : n.drop k = ps at *
      clear hnm hns hsd hps hk hg
      go_wp2_with (go_at_call 64; refine hcl.mono ?_; rintro e w3 ⟨v3, rfl, ho3, hb3⟩)
      all_goals
        obtain ⟨a3, c3, rfl⟩ := ho3.shape
        have HO3 := Lib.hid ho3
        have HB3 := Lib.hid (HB2.out.trans (hb3.mono HB2.out.size))
        clear ho3 hb3
        go_wp2
        go_ret
        exact ⟨a3, _, c3, rfl, by rw [hE.out]; exact HO3.out.nmAt, HB3.out⟩

  · simp only [Bool.not_eq_true] at hu
    rw [hu] at HWH ⊢
    have H1 : Hid (res = []) := Lib.hid (by rw [HWH.out]; rfl)
    clear hu HWH HC HDL
    go_wp2
    go_ret
    exact ⟨none, 0, 0, rfl, by rw [H1.out]; exact nm_nil _, HB1.out⟩
end Go.Proofs.YtckammgnmgkieaaGreat

/-
  zone.New, zone.Source.
-/
namespace Go.Proofs.YtckammgnmgkieaaGreat
set_option maxRecDepth 20000
open Go.RowKit Go.Shelf
set_option maxRecDepth 20000
set_option linter.unusedVariables false
set_option linter.unusedSimpArgs false
theorem results_zone {fn : Func} {t : Tmp} (h : fn.results = #[.cell t 57]) (tmps : Array Value) (W : World) {a : Nat} {x0 x1 : Value} (h0 : x0.oneCell' = true) (h1 : x1.oneCell' = true)
    (ht : tmps.getD t undef = .pointer (some ⟨a, 0, none⟩)) (hb : W.heap[a]? = some (.cells #[x0, x1] 57)) : (results fn tmps).run Tryz.prog W = .ok (.agg #[x0, x1]) W := by
  have ht' : tmps[t]?.getD undef = .pointer (some ⟨a, 0, none⟩) := by rw [← ht]; simp
  have hu : ∀ w, Sem.run Tryz.prog (underlying 57) w = .ok _ w := run_underlying Tryz.underlying57
  have y0 := kcell hb 0 _ rfl; have y1 := kcell hb 1 _ rfl
  simp [results, h, ht', loadVar, asAddr, go_sem, hu, y0, y1, isAgg]
def NewPost (w : World) (o : Nm) (rs : List Rc) (e : Ending) (w' : World) : Prop := ∃ za zn zc v1 m c, e = .returned (.agg #[.slice za zn zc, .slice v1 m c]) ∧ ZonS w' za zn zc v1 m c o rs ∧ Below w.heap.size w w'
set_option maxRecDepth 100000 in
set_option maxHeartbeats 8000000 in
theorem zone_New {w : World} (vo vl : Value) (o : Nm) (l : List Rc) (hO : NmAt w vo o) (hko : NmOK o) (hL : RowC w vl l) (hOK : ∀ r ∈ l, RcOK r) (hl : l.length ≤ 1048576) :
    Calls Tryz.prog 28 #[vo, vl] w (NewPost w o (canonM l)) := by
  have HCL := Lib.hid (fun (W : World) (hb : Below w.heap.size w W) => clone_Name vo o W (hO.below hb).1 (hO.below hb).2 (by have := hko.1; omega))
  have HCN := Lib.hid (fun (W : World) (hb : Below w.heap.size w W) => by
    obtain ⟨css, h1, h2⟩ := hL.below hb
    exact rec_Canon vl css l W h1 h2 hOK (by rw [h2.1]; exact hl))
  have HOKC := Lib.hid (canonM_ok' l hOK)
  have HLC := Lib.hid (show (canonM l).length ≤ 1048576 by have := canonM_length l; omega)
  obtain ⟨ao, co, rfl, -⟩ := nmAt_sl.1 hO
  obtain ⟨al, cl, el⟩ : ∃ a c, vl = .slice a l.length c := by
    obtain ⟨css, ⟨a, c, e, _⟩, h2⟩ := hL
    exact ⟨a, c, by rw [e, h2.1]⟩
  subst el
  generalize (List.map strV o).length = qo at *
  obtain ⟨C, hC⟩ : ∃ C, canonM l = C := ⟨_, rfl⟩
  unfold CanonPost at HCN
  rw [hC] at HCN HOKC HLC ⊢
  have hB0 := (Below.refl w.heap.size w).alloc (Nat.le_refl _) (.cells #[.slice none 0 0, .slice none 0 0] 57)
  have X0 := Lib.hid (knew w (.cells #[.slice none 0 0, .slice none 0 0] 57))
  have hc := HCL.out _ hB0
  have HB0 := Lib.hid hB0
  have HKO := Lib.hid hko
  clear hO hko hL hOK hl hB0 HCL hC
  go_enter Tryz.func28, Tryz.ntmps28
  go_wp2_with fail
  refine hc.mono ?_
  rintro e w1 ⟨v1, rfl, ho1, hb1⟩
  obtain ⟨a1, c1, rfl⟩ := ho1.shape
  have HB1 := Lib.hid (HB0.out.trans (hb1.mono HB0.out.size))
  have X1 := Lib.hid ((hb1.block w.heap.size (kblock_lt X0.out)).trans X0.out)
  have HO1 := Lib.hid (ho1.weaken HB0.out.size)
  have hc2 := HCN.out w1 HB1.out
  clear ho1 hb1 hc HB0 X0 HCN
  go_wp2_with fail
  refine hc2.mono ?_
  rintro e w2 ⟨v2, css, rfl, ho2, hl2, hf2, hb2⟩
  obtain ⟨a2, c2, rfl⟩ := OwnK.shape ho2
  have HB2 := Lib.hid (HB1.out.trans (hb2.mono HB1.out.size))
  have x2 := (hb2.block w.heap.size (kblock_lt X1.out)).trans X1.out
  have HO2 := Lib.hid (HO1.out.below hb2)
  obtain ⟨m, hm⟩ : ∃ m, css.length = m := ⟨_, rfl⟩
  rw [hm] at ho2 ⊢
  have HR2 := Lib.hid (And.intro ho2 (And.intro hl2 hf2))
  have HX2 := Lib.hid x2
  have hsz : w.heap.size < w1.heap.size := kblock_lt X1.out
  have y0 := kcell x2 0 _ rfl; have y1 := kcell x2 1 _ rfl; have z0 := kfrozen x2 0; have z1 := kfrozen x2 1
  have HM := Lib.hid hm
  clear ho2 hl2 hf2 hb2 hc2 HB1 X1 HO1 x2 hm
  go_wp2_with fail
  have q0 := kset HX2.out 0 (.slice a1 o.length c1)
  have q1 := kset q0 1 (.slice a2 m c2)
  refine bodyPost_ret (results_zone rfl _ _ rfl rfl rfl q1) rfl ?_
  obtain ⟨h1, h2, h3⟩ := HR2.out
  have g0 := grownBy_set w2 w.heap.size 0 (.slice a1 o.length c1)
  have g1 := grownBy_set (w2.setCell ⟨w.heap.size, 0, none⟩ (.slice a1 o.length c1)) w.heap.size 1 (.slice a2 m c2)
  refine ⟨a1, _, c1, a2, m, c2, rfl, ⟨((HO2.out.keptB HX2.out (by decide) 0 _).keptB q0 (by decide) 1 _).nmAt, HKO.out, ⟨css, ?_, ?_⟩, HOKC.out, by have := HM.out; have := HLC.out; omega⟩, ?_⟩
  · exact SlK.of_own (OwnK.keptB (OwnK.keptB h1 HX2.out (by decide) 0 _) q0 (by decide) 1 _) (fun cs hc => by
      obtain ⟨i, hi, rfl⟩ := List.mem_iff_getElem.1 hc
      exact (h3 i hi (by have := HM.out; omega)).rcAt.len)
  · exact ⟨by have := HM.out; omega, fun i a b => (((h3 i a b).keptX hsz g0).keptX hsz g1).rcAt⟩
  · exact (HB2.out.setCell (p := ⟨w.heap.size, 0, none⟩) (Nat.le_refl _) _).setCell (p := ⟨w.heap.size, 1, none⟩) (Nat.le_refl _) _
end Go.Proofs.YtckammgnmgkieaaGreat

/-
  zone.Source.
-/
namespace Go.Proofs.YtckammgnmgkieaaGreat
set_option maxRecDepth 20000
open Go.RowKit Go.Shelf
set_option maxRecDepth 20000
set_option linter.unusedVariables false
set_option linter.unusedSimpArgs false
theorem any_succ {α : Type} {p : α → Bool} {l : List α} {k : Nat} (h : k < l.length) : (l.take (k + 1)).any p = ((l.take k).any p || p l[k]) := by
  rw [List.take_succ_eq_append_getElem h, List.any_append]; simp
theorem encM_ok {o n : Nm} {rs : List Rc} (hn : NmOK n) : NmOK (encM o rs n) := by
  unfold encM
  split
  · exact ⟨by unfold ancN; rw [List.length_drop]; have := hn.1; omega, fun x hx => hn.2 x (List.mem_of_mem_drop hx)⟩
  · exact ⟨by simp, by simp⟩
theorem encM_len {o n : Nm} (rs : List Rc) : (encM o rs n).length ≤ n.length := by
  unfold encM
  split
  · unfold ancN; rw [List.length_drop]; omega
  · simp
def SrcPost (w : World) (l : Nm) (ok : Bool) (e : Ending) (w' : World) : Prop := ∃ a k c, e = .returned (.tuple #[.slice a k c, .bool ok]) ∧ NmAt w' (.slice a k c) (if ok then l else []) ∧ Below w.heap.size w w'
set_option maxRecDepth 100000 in
set_option maxHeartbeats 8000000 in
theorem zone_Source {w : World} {za v1 : Option Addr} {zn zc m c : Nat} {o n : Nm} {rs : List Rc} {vn : Value} (h : ZonS w za zn zc v1 m c o rs) (hO : NmAt w vn n) (hko : NmOK n) (hn1 : n.length < 1048576) :
    Calls Tryz.prog 33 #[.agg #[.slice za zn zc, .slice v1 m c], vn] w (SrcPost w (starM o rs n) (sourceM o rs n)) := by
  have HC := Lib.hid (fun (W : World) (hb : Below w.heap.size w W) => zone_Encloser (h.below hb) (hO.below hb) hko)
  have hE := encM_ok (o := o) (rs := rs) hko
  have hEl := encM_len (o := o) (n := n) rs
  have hS : NmOK (starM o rs n) := ⟨by unfold starM; rw [List.length_cons]; omega, fun x hx => by
    unfold starM at hx
    rcases List.mem_cons.1 hx with rfl | hx
    · decide
    · exact hE.2 x hx⟩
  obtain ⟨-, -, ⟨css, hA, hR⟩, hOK, hl⟩ := h
  obtain ⟨hln, hx⟩ : css.length = m ∧ m ≤ c := by
    obtain ⟨a', c', e, h1, _⟩ := id hA
    cases e; exact ⟨rfl, h1⟩
  have HST := Lib.hid (show starM o rs n = [42] :: encM o rs n from rfl)
  have HSO := Lib.hid (show sourceM o rs n = rs.any fun r => sameN r.owner (starM o rs n) from rfl)
  have HE := Lib.hid hE
  have HA := Lib.hid hA; have HR := Lib.hid hR; have HLN := Lib.hid hln; have HOK := Lib.hid hOK
  have HDL := Lib.hid (show rs.length = m by rw [← hR.1]; exact hln)
  obtain ⟨ao, co, rfl, -⟩ := nmAt_sl.1 hO
  generalize (List.map strV n).length = qo at *
  obtain ⟨S, hSS⟩ : ∃ S, starM o rs n = S := ⟨_, rfl⟩
  rw [hSS] at HST HSO hS ⊢
  generalize sourceM o rs n = res at *
  have HS := Lib.hid hS
  have hB0 := (Below.refl w.heap.size w).alloc (Nat.le_refl _) (.cells #[.slice za zn zc, .slice v1 m c] 57)
  have X0 := Lib.hid (knew w (.cells #[.slice za zn zc, .slice v1 m c] 57))
  have hc := HC.out _ hB0
  have HB0 := Lib.hid hB0
  clear hO hko hB0 HC hA hR hOK hln hE hEl hS hSS hn1
  go_enter Tryz.func33, Tryz.ntmps33
  go_wp2_with fail
  refine hc.mono ?_
  rintro e w1 ⟨a1, k1, c1, rfl, hn1, hb1⟩
  have HB1 := Lib.hid (HB0.out.trans (hb1.mono HB0.out.size))
  have X1 := Lib.hid ((hb1.block w.heap.size (kblock_lt X0.out)).trans X0.out)
  have hc2 := kn_NChild ⟨#[42]⟩ (.slice a1 k1 c1) (encM o rs n) S S.length (by rw [HST.out]) rfl w1 hn1 HE.out
  clear hc hn1 hb1 HB0 X0 HE
  go_wp2_with fail
  refine hc2.mono ?_
  rintro e w2 ⟨a2, c2, rfl, hn2, hb2⟩
  have HB2 := Lib.hid (HB1.out.trans (hb2.mono HB1.out.size))
  have x2 := (hb2.block w.heap.size (kblock_lt X1.out)).trans X1.out
  have HN2 := Lib.hid hn2
  have y0 := kcell x2 0 _ rfl; have y1 := kcell x2 1 _ rfl
  generalize S.length = sl at *
  clear hc2 hn2 hb2 HB1 X1 x2
  go_wp2
  clear y0 y1
  go_loopw [16] (fun vi wr => ∃ k : Nat, vi = .int .i64 k ∧ k ≤ m ∧ Hid (((rs.take k).any fun r => sameN r.owner S) = false) ∧ Hid (Below w2.heap.size w2 wr)) (fun vi _ => m - (intOf vi).toNat)
  case atStart => exact ⟨0, rfl, Nat.zero_le _, Lib.hid (by simp), Lib.hid (Below.refl _ _)⟩
  case round =>
    obtain ⟨k, rfl, hk, HN, HB⟩ := hrel
    by_cases hlt : k < m
    · have hltz : (k : Int) < (m : Int) := by omega
      have hk1 : k < css.length := by have := HLN.out; omega
      have hk2 : k < rs.length := by have := HDL.out; omega
      obtain ⟨b, off, rfl, hb, hel⟩ := HA.out.elem HR.out.ck (by omega)
      have h0 := HR.out.2 k hk1 hk2
      have hokr := (HOK.out _ (List.getElem_mem hk2)).1
      have hany := any_succ (p := fun r => sameN r.owner S) hk2
      obtain ⟨d, hd⟩ : ∃ d, rs[k]'hk2 = d := ⟨_, rfl⟩
      have hdm : d ∈ rs := by rw [← hd]; exact List.getElem_mem _
      rw [hd] at h0 hokr hany
      rw [HN.out, Bool.false_or] at hany
      have hsh := h0.shape
      obtain ⟨⟨p0, q0, k0⟩, ⟨p3, q3, k3⟩, ⟨p4, q4, k4⟩, ⟨p5, q5, k5⟩, ⟨p6, q6, k6⟩, e0⟩ := hsh
      simp only at e0
      have hwr : Below w.heap.size w wr := HB2.out.trans (HB.out.mono HB2.out.size)
      obtain ⟨c0', c1', c2', c3, c4, c5, c6⟩ := hel k hk1 _ _ _ _ _ _ _ e0 wr hwr
      have hown0 : NmAt w (.slice p0 q0 k0) d.owner := by
        obtain ⟨_, _, _, _, _, e5, g1, _⟩ := h0
        rw [e0] at e5
        simp only [List.cons.injEq, and_true] at e5
        rw [e5.1]; exact g1
      have hbb := HB.out.alloc HB.out.size (.cells #[.slice p0 q0 k0, .int .u32 (d.ttl : Int), .int .i64 d.data.ty, .slice p3 q3 k3, .slice p4 q4 k4, .slice p5 q5 k5, .slice p6 q6 k6] 103)
      have hww := hwr.alloc hwr.size (.cells #[.slice p0 q0 k0, .int .u32 (d.ttl : Int), .int .i64 d.data.ty, .slice p3 q3 k3, .slice p4 q4 k4, .slice p5 q5 k5, .slice p6 q6 k6] 103)
      have hn := kn_NSame (.slice p0 q0 k0) (.slice a2 sl c2) d.owner S _ rfl _ (hown0.below hww) (HN2.out.below hbb) hokr HS.out
      have HBB := Lib.hid hbb; have HANY := Lib.hid hany; have HDM := Lib.hid hdm
      clear h0 hd e0 hel hown0 hokr hany hdm hk1 hk2 hwr hbb hww
      generalize (d.ttl : Int) = tr at *
      generalize d.data.ty = ty at *
      go_wp2_with fail
      refine hn.mono ?_
      rintro e w3 ⟨rfl, hb3⟩
      have HB3 := Lib.hid (HBB.out.trans (hb3.mono HBB.out.size))
      clear hn hb3 HBB c0' c1' c2' c3 c4 c5 c6
      obtain ⟨q, hq⟩ : ∃ q, sameN d.owner S = q := ⟨_, rfl⟩
      have HQ := Lib.hid hq
      rw [hq] at HANY ⊢
      clear hq
      cases q
      · go_wp2
        go_roundw
        case measure => simp [intOf]; omega
        case rel => exact ⟨k + 1, by go_num, by omega, HANY, HB3⟩
      · have H1 : Hid (res = true) := Lib.hid (by rw [HSO.out, List.any_eq_true]; exact ⟨d, HDM.out, HQ.out⟩)
        go_wp2
        go_ret2
        exact ⟨a2, _, c2, by rw [H1.out]; rfl, by rw [H1.out, if_pos rfl]; exact HN2.out.below HB3.out, HB2.out.trans (HB3.out.mono HB2.out.size)⟩
    · obtain rfl : k = m := by omega
      have hn := HN.out
      rw [List.take_of_length_le (by have := HDL.out; omega)] at hn
      have H1 : Hid (res = false) := Lib.hid (by rw [HSO.out]; exact hn)
      clear hn
      go_wp2
      go_ret2
      exact ⟨none, 0, 0, by rw [H1.out]; rfl, by rw [H1.out]; exact nm_nil _, HB2.out.trans (HB.out.mono HB2.out.size)⟩
end Go.Proofs.YtckammgnmgkieaaGreat

