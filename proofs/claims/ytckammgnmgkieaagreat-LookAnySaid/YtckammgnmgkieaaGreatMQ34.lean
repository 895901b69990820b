import Derived.Test.YtckammgnmgkieaaGreatMQ15
namespace Go.Proofs.YtckammgnmgkieaaGreat
set_option maxRecDepth 100000
set_option maxHeartbeats 16000000
open Go.RowKit Go.Shelf
theorem FrSet.weakF {W : World} {base b2 : Nat} {cs : List Value} {s : St} (h : FrSet W base cs s) (hb : b2 ≤ base) : FrSet W b2 cs s := by
 obtain ⟨x0, x3, ds, e, h1, h2, h3, h4⟩ := h
 refine ⟨x0, x3, ds, e, h1.weaken hb, OwnK.weaken h2 hb, h3, fun j a b => ?_⟩
 obtain ⟨vn, vu, vt, vr, e2, h6⟩ := h4 j a b
 exact ⟨vn, vu, vt, vr, e2, h6.weaken hb⟩
theorem qmY {W : World} {x0 x1 x2 x4 b : Value} {r : Lk} (h : LkAt W [x0, x1, x2, b, x4] r) : LkAt W [x0, x1, x2, .bool true, x4] { r with wild := true } := by
 obtain ⟨xd, xn, xg, e, h⟩ := h
 simp only [List.cons.injEq, and_true] at e
 obtain ⟨rfl, rfl, rfl, -, rfl⟩ := e
 exact ⟨xd, xn, xg, rfl, h⟩
section
attribute [local go_sem] Oper.semAt_some
theorem qbh {w : World} {za v1 : Option Addr} {zn zc m c : Nat} {o q : Nm} {rs : List Rc} {vq : Value} (t : Int) (hz : ZonS w za zn zc v1 m c o rs) (hQ : NmAt w vq q) (hkq : NmOK q) (hq1 : q.length < 1048576) (hall : ∀ s d, ofM (onM rs q) (ancN q s) 39 = some d → pointD d = true → ∀ k, NmOK (q.take k ++ firstN d)) :
 Calls Tryz.prog 49 #[.agg #[.slice za zn zc, .slice v1 m c], vq, .int .i64 t] w (LkPost w.heap.size w (lookM o rs q t)) := by
 have hzn := nm_len hz.1
 have HUN := qH0 (fun (W : World) (hb : Below w.heap.size w W) => qfc (hz.below hb) (hQ.below hb) hkq)
 have HAB := qH0 (fun (W : World) (hb : Below w.heap.size w W) => qkh (hz.below hb) (hQ.below hb) hkq)
 have HEX := qH0 (fun (W : World) (hb : Below w.heap.size w W) => qiX (hz.below hb) (hQ.below hb) hkq)
 have HSR := qH0 (fun (W : World) (hb : Below w.heap.size w W) => qi6 (hz.below hb) (hQ.below hb) hkq hq1)
 have HZS := qH0 hz; have HQS := qH0 hQ; have HKQ := qH0 hkq; have HAL := qH0 hall
 have HQ1 := qH0 hq1
 have HLF := qH0 (show underN q o = false → lookM o rs q t = ⟨7, [], [], false, []⟩ from fun h => by unfold lookM; rw [if_pos h])
 have HLT := qH0 (@ql7 o rs q t)
 obtain ⟨ao, co, rfl, -⟩ := nmAt_sl.1 hQ
 obtain ⟨qo, hqo⟩ : ∃ k, (List.map strV q).length = k := ⟨_, rfl⟩
 have hqn : q.length = qo := by rw [← hqo, List.length_map]
 rw [hqo] at HUN HAB HEX HSR HQS ⊢
 have hqc := nm_cap HQS.out
 have HQN := qH0 hqn; have HZL := qH0 hzn
 have hq2 : qo ≤ 1048576 := by have := hkq.1; omega
 have hz2 : zn ≤ 1048576 := by have := hz.2.1.1; omega
 obtain ⟨res, hres⟩ : ∃ r, lookM o rs q t = r := ⟨_, rfl⟩
 rw [hres] at HLF HLT ⊢
 clear hz hQ hkq hall hqo hqn hzn hres hq1
 refine (callsIn_wide (n := 8)).1 ?_
 refine callsIn_of_wp_marks Tryz.func49 rfl trivial ?_ rfl
 simp only [Tryz.ntmps49, List.size_toArray, List.length_cons, List.length_nil, Nat.reduceAdd, Nat.reduceSub, Array.replicate_succ, Array.replicate_zero, List.push_toArray, List.append_toArray, List.nil_append, List.cons_append]
 refine wpIn_wide.2 ?_
 obtain ⟨W0, hW0⟩ : ∃ W0, ((w.alloc (.cells #[.slice za zn zc, .slice v1 m c] 57)).alloc (.cells #[.slice ao qo co] 24)).alloc (.cells #[.int .i64 0, .slice none 0 0, .slice none 0 0, .bool false, .slice none 0 0] 84) = W0 := ⟨_, rfl⟩
 have HB0 : Hid (Below w.heap.size w W0) := qH0 (by rw [← hW0]; exact (((Below.refl w.heap.size w).alloc (qN0) _).alloc (by simp) _).alloc (by simp; omega) _)
 have HZ0 : Hid (W0.heap.size = w.heap.size + 3) := qH0 (by rw [← hW0]; simp)
 have x0 : W0.heap[w.heap.size]? = some (.cells #[.slice za zn zc, .slice v1 m c] 57) := by
  rw [← hW0]; exact (Below.heap_alloc _ _ _ (by simp; omega)).trans ((Below.heap_alloc _ _ _ (by simp)).trans (knew w _))
 have x1 : W0.heap[w.heap.size + 1]? = some (.cells #[.slice ao qo co] 24) := by
  have h := knew (w.alloc (.cells #[.slice za zn zc, .slice v1 m c] 57)) (.cells #[.slice ao qo co] 24)
  rw [World.size_alloc] at h
  rw [← hW0]; exact (Below.heap_alloc _ _ _ (by simp)).trans h
 have x2 : W0.heap[w.heap.size + 1 + 1]? = some (.cells #[.int .i64 0, .slice none 0 0, .slice none 0 0, .bool false, .slice none 0 0] 84) := by
  have h := knew ((w.alloc (.cells #[.slice za zn zc, .slice v1 m c] 57)).alloc (.cells #[.slice ao qo co] 24)) (.cells #[.int .i64 0, .slice none 0 0, .slice none 0 0, .bool false, .slice none 0 0] 84)
  rw [World.size_alloc, World.size_alloc] at h
  rw [← hW0]; exact h
 have hU := HUN.out W0 HB0.out
 have X0 := qH0 x0; have X1 := qH0 x1; have X2 := qH0 x2
 have y0 := kcell x0 0 _ rfl
 have y1 := kcell x1 0 _ rfl
 clear x0 x1 x2 HUN
 go_wp2_with fail
 clear hW0
 refine hU.mono ?_
 rintro e w1 ⟨rfl, hb1⟩
 have HB1 := qH0 (qB0 HB0.out hb1)
 have Y0 := qH0 ((hb1.block w.heap.size (qaa X0.out)).trans X0.out)
 have Y1 := qH0 ((hb1.block (w.heap.size + 1) (qaa X1.out)).trans X1.out)
 have Y2 := qH0 ((hb1.block (w.heap.size + 1 + 1) (qaa X2.out)).trans X2.out)
 have HZ1 := qH0 (show w.heap.size + 3 ≤ w1.heap.size by have := HZ0.out; have := hb1.size; omega)
 clear hb1 HB0 HZ0 X0 X1 X2 hU y0 y1
 cases hu : underN q o with
 | false =>
  have HL := HLF.out hu
  have z0 := kcell Y2.out 0 _ rfl; have z1 := kcell Y2.out 1 _ rfl; have z2 := kcell Y2.out 2 _ rfl; have z3 := kcell Y2.out 3 _ rfl; have z4 := kcell Y2.out 4 _ rfl
  have u0 := qab Y2.out 0; have u1 := qab Y2.out 1; have u2 := qab Y2.out 2; have u3 := qab Y2.out 3; have u4 := qab Y2.out 4
  have HL := qH0 HL
  clear hu HLF HLT HAB HEX HSR
  go_wp2
  refine ⟨_, lk_fin rfl _ Y2.out rfl rfl rfl rfl rfl rfl, ?_⟩
  rw [HL.out]
  exact ⟨_, rfl, fun W' hk => qbb W' 7 false, qas HB1.out (by omega) _ _ _ _ _⟩
 | true =>
  have HL := qH0 (HLT.out hu)
  have HU := qH0 hu
  clear hu HLF HLT
  have ha := HAB.out w1 HB1.out
  unfold AbPost at ha
  have y0 := kcell Y0.out 0 _ rfl
  have y1 := kcell Y0.out 1 _ rfl
  have y2 := kcell Y1.out 0 _ rfl
  clear HAB
  go_wp2_with fail
  refine ha.mono ?_
  rintro e w2 ⟨v2, csw, rfl, ho2, hr2, hb2⟩
  obtain ⟨da, dc, rfl⟩ := OwnK.shape ho2
  obtain ⟨dl, hdl⟩ : ∃ dl, csw.length = dl := ⟨_, rfl⟩
  rw [hdl] at ho2 ⊢
  obtain ⟨W2, hW2⟩ : ∃ W2, ((w2.alloc (.cells #[.slice da dl dc] 22)).alloc (.cells #[.int .i64 (zn : Int)] 3)).alloc (.cells #[.slice ao qo co] 24) = W2 := ⟨_, rfl⟩
  have hB2 : Below w2.heap.size w2 W2 := by rw [← hW2]; exact (((Below.refl w2.heap.size w2).alloc (qN0) _).alloc (by simp) _).alloc (by simp; omega) _
  have hz2' : W2.heap.size = w2.heap.size + 3 := by rw [← hW2]; simp
  have x6 : Boxed W2 w2.heap.size 22 (.slice da dl dc) := by
   rw [← hW2]; exact ((Boxed.new w2 _ _).alloc _).alloc _
  have x7 : Boxed W2 (w2.heap.size + 1) 3 (.int .i64 (zn : Int)) := by
   have h := Boxed.new (w2.alloc (.cells #[.slice da dl dc] 22)) 3 (.int .i64 (zn : Int))
   rw [World.size_alloc] at h
   rw [← hW2]; exact h.alloc _
  have x8 : Boxed W2 (w2.heap.size + 1 + 1) 24 (.slice ao qo co) := by
   have h := Boxed.new ((w2.alloc (.cells #[.slice da dl dc] 22)).alloc (.cells #[.int .i64 (zn : Int)] 3)) 24 (.slice ao qo co)
   rw [World.size_alloc, World.size_alloc] at h
   rw [← hW2]; exact h
  have hb12 : Below w1.heap.size w1 W2 := qB0 hb2 hB2
  have k0 := (hb2.block w.heap.size (qaa Y0.out)).trans Y0.out
  have k1 := (hb2.block (w.heap.size + 1) (qaa Y1.out)).trans Y1.out
  have X0 : Hid (W2.heap[w.heap.size]? = some (.cells #[.slice za zn zc, .slice v1 m c] 57)) := qH0 ((hb12.block _ (qaa Y0.out)).trans Y0.out)
  have X1 : Hid (W2.heap[w.heap.size + 1]? = some (.cells #[.slice ao qo co] 24)) := qH0 ((hb12.block _ (qaa Y1.out)).trans Y1.out)
  have X2 : Hid (W2.heap[w.heap.size + 1 + 1]? = some (.cells #[.int .i64 0, .slice none 0 0, .slice none 0 0, .bool false, .slice none 0 0] 84)) := qH0 ((hb12.block _ (qaa Y2.out)).trans Y2.out)
  have X6 := qH0 x6; have X7 := qH0 x7; have X8 := qH0 x8
  have HWW := qH0 (qB0 HB1.out hb12)
  have HON := qH0 (show RowC W2 (.slice da dl dc) (onM rs q) from ⟨csw, (SlK.of_own ho2 hr2.ck).below hB2, hr2.below (hb12)⟩)
  have HZ2 := qH0 (show w.heap.size + 3 ≤ w2.heap.size by have := HZ1.out; have := hb2.size; omega)
  have HZ3 := qH0 hz2'
  have k2 : (w2.alloc (.cells #[.slice da dl dc] 22)).heap[w.heap.size]? = some (.cells #[.slice za zn zc, .slice v1 m c] 57) := (Below.heap_alloc _ _ _ (qaa k0)).trans k0
  have k3 : (w2.alloc (.cells #[.slice da dl dc] 22)).heap[w.heap.size + 1]? = some (.cells #[.slice ao qo co] 24) := (Below.heap_alloc _ _ _ (qaa k1)).trans k1
  have z0 := kcell k2 0 _ rfl
  have z1 := kcell k3 0 _ rfl
  have hD := fun W => qhi zn ao qo co W
  clear x6 x7 x8 hb12 k0 k1 k2 k3 hB2 hz2' hb2 ho2 hr2 y0 y1 y2 ha hdl Y0 Y1 Y2 HZ1
  go_wp2_with fail
  refine (hD _).mono ?_
  rintro e w' ⟨rfl, rfl⟩
  go_wp2
  refine (wpIn_wide (n := 8)).1 ?_
  clear hW2 hD z0 z1
  obtain ⟨N, hN⟩ : ∃ N, N = qo + 1 - zn := ⟨_, rfl⟩
  have HN := qH0 hN
  have hca : ao = none → co = 0 := by
   obtain ⟨a', n', c', e, _, h1⟩ := HQS.out.2
   injection e with e1 e2 e3
   intro h
   rw [e3]; exact h1 (by rw [← e1]; exact h)
  have HCA := qH0 hca
  clear hN hca
  refine wpIn_rangeFunc_ownG rfl (by omega) (gf := 138) (lb := #[.pointer (some ⟨w2.heap.size + 1, 0, none⟩), .pointer (some ⟨w2.heap.size + 1 + 1, 0, none⟩)]) rfl trivial (enters_of Tryz.func138 (by kernel_rfl) rfl)
   (qgo _ (by omega) (w2.heap.size + 1) (w2.heap.size + 1 + 1) ao qo co zn N HN.out HCA.out hqc hq2 (by omega) W2 (by rw [HZ3.out]; omega) (by rw [HZ3.out]; omega) X7.out.cell X8.out.cell) qgc (qdo (by rw [HZ3.out]; omega)) (qL0) (fun _ => rfl)
   (fun pre W => Below W2.heap.size W2 W ∧ ∀ x ∈ pre, stepM o (onM rs q) rs q (zn + x.val) = none)
   (LkX w W2 o (onM rs q) rs q (w.heap.size + 1 + 1) zn)
   (OwnFrom.and (ownFrom_below (qN0) (qN0)) (ownFrom_pure _ _))
   (fun k => qm7 k (by have := HZ2.out; have := HZ3.out; omega) (by have := HZ2.out; have := HZ3.out; omega))
   ⟨qL0, by simp⟩
   (fun x => { tmps := #[.agg #[.slice za zn zc, .slice v1 m c], .slice ao qo co, .int .i64 t, .pointer (some ⟨w.heap.size, 0, none⟩), .pointer (some ⟨w.heap.size + 1, 0, none⟩), undef, .pointer (some ⟨w.heap.size + 1 + 1, 0, none⟩), .pointer (some ⟨w2.heap.size, 0, none⟩), .slice (cutA ao (qo - (zn + x.val)) co) (zn + x.val) (co - (qo - (zn + x.val))), undef, undef, undef, undef, undef, undef, undef, .slice ao qo co, .pointer (some ⟨w.heap.size, 0, none⟩), .slice za zn zc, .bool true, .bool false, undef, .agg #[.slice za zn zc, .slice v1 m c], .slice ao qo co, .slice da dl dc, .pointer (some ⟨w.heap.size, 0, none⟩), .slice za zn zc, .int .i64 (zn : Int), .slice ao qo co, .func (.func 138) #[] #[.pointer (some ⟨w2.heap.size + 1, 0, none⟩), .pointer (some ⟨w2.heap.size + 1 + 1, 0, none⟩)], .slice (cutA ao (qo - (zn + x.val)) co) (zn + x.val) (co - (qo - (zn + x.val))), undef, undef, undef, undef, undef, undef, undef, undef, undef, undef, undef, undef, undef, undef, undef, undef, undef, undef, undef, undef, undef, undef, undef, undef, undef, undef, undef, undef, undef, undef, undef, undef, undef, undef, undef, undef, undef, undef, undef, undef, undef, undef, undef, undef, undef, undef, undef, undef, undef, undef, undef, undef, undef, undef, undef, undef, undef, undef, undef], defers := [] }) ?assign ?body ?done ?stop
  case assign =>
   intro l x W K hK
   unfold dlV
   gi_wp2
   exact hK
  case body =>
   rintro l pre x W ⟨hB, hno⟩ hlt
   have hxN := x.isLt
   obtain ⟨s, hs⟩ : ∃ s, zn + x.val = s := ⟨_, rfl⟩
   have hsq : s ≤ qo := by have := HN.out; omega
   have hww := qB0 HWW.out hB
   have hnm := qmL (HQS.out.below hww) hsq
   have HKA : Hid (NmOK (ancN q s)) := qH0 ⟨by rw [qcV (by rw [HQN.out]; exact hsq)]; omega, fun y hy => HKQ.out.2 y (List.mem_of_mem_drop hy)⟩
   have HSF : Hid (∀ ns, zn < s → ofM (onM rs q) (ancN q s) 2 = some ns → stepM o (onM rs q) rs q (zn + x.val) = some (referM rs (ancN q s) ns)) := qH0 (fun ns h1 h2 => by rw [hs]; exact qis (by rw [← HZL.out]; exact h1) h2)
   have HSE : Hid ((¬ zn < s ∨ ofM (onM rs q) (ancN q s) 2 = none) → stepM o (onM rs q) rs q (zn + x.val) = match (if s < qo then ofM (onM rs q) (ancN q s) 39 else none) with | some d => if pointD d then some (qaK q (ancN q s) d) else none | none => none) := qH0 (fun h => by
    rw [hs, ← HQN.out]
    exact qiJ (by rw [← HZL.out]; exact h))
   have HEND : Hid (stepM o (onM rs q) rs q (zn + x.val) = none → ∀ y ∈ pre ++ [x], stepM o (onM rs q) rs q (zn + y.val) = none) := qH0 (fun h y hy => by
    rcases List.mem_append.1 hy with hy | hy
    ·exact hno y hy
    ·obtain rfl := List.mem_singleton.1 hy; exact h)
   have HSL := qH0 (show zn + x.val = s from hs)
   rw [hs]
   clear hs
   obtain ⟨n, hn⟩ : ∃ n, ancN q s = n := ⟨_, rfl⟩
   have HNE := qH0 hn
   rw [hn] at hnm HKA HSF HSE
   have HNM := qH0 hnm
   generalize cutA ao (qo - s) co = na at *
   generalize co - (qo - s) = nc at *
   have HRL : Hid (rs.length ≤ 1048576) := qH0 (by
    obtain ⟨_, _, ⟨css, q1, q2⟩, _, q3⟩ := HZS.out
    obtain ⟨_, _, e, _⟩ := q1
    injection e with _ e _
    have := q2.1; omega)
   have HOF := qH0 (fun (t : Int) (Wc : World) (hb : Below W.heap.size W Wc) => qf2 (.slice da dl dc) (.slice na s nc) n t (onM rs q) Wc (HON.out.below (qB0 hB hb)) (HNM.out.below hb) HKA.out (fun r hr => HZS.out.2.2.2.1 r (List.mem_filter.1 hr).1) (by have := qeM rs q; have := HRL.out; omega))
   have HCELL : Hid (∀ Wc, Below W.heap.size W Wc → Wc.cell? ⟨w.heap.size, 0, none⟩ = some (.slice za zn zc) ∧ Wc.cell? ⟨w.heap.size, 1, none⟩ = some (.slice v1 m c) ∧ Wc.cell? ⟨w.heap.size + 1, 0, none⟩ = some (.slice ao qo co) ∧ Wc.cell? ⟨w2.heap.size, 0, none⟩ = some (.slice da dl dc) ∧ Wc.heap[w.heap.size + 1 + 1]? = some (.cells #[.int .i64 0, .slice none 0 0, .slice none 0 0, .bool false, .slice none 0 0] 84)) := qH0 (fun Wc hb => by
    have h := qB0 hB hb
    have a0 := (h.block _ (qaa X0.out)).trans X0.out
    have a1 := (h.block _ (qaa X1.out)).trans X1.out
    have a6 := (h.block _ X6.out.lt).trans X6.out
    exact ⟨kcell a0 0 _ rfl, kcell a0 1 _ rfl, kcell a1 0 _ rfl, Boxed.cell a6, (h.block _ (qaa X2.out)).trans X2.out⟩)
   have HBW := qH0 hB; have HNO := qH0 hno; have HW := qH0 hww
   have HB2L : Hid (w2.heap.size + 1 + 1 < W.heap.size) := qH0 (by have := HZ3.out; have := hB.size; omega)
   clear hB hno hww hnm hn
   by_cases hA : zn < s
   ·have hAz : (zn : Int) < (s : Int) := by omega
    have hc1 := HOF.out 2 W (Below.refl W.heap.size W)
    obtain ⟨r1, hr1⟩ : ∃ r, ofM (onM rs q) n 2 = r := ⟨_, rfl⟩
    have HR1 := qH0 hr1
    have HWS := qH0 HBW.out.size
    unfold qb9 at hc1
    rw [hr1] at hc1
    clear hr1
    obtain ⟨y0, y1, y2, y6, y9⟩ := HCELL.out _ (Below.refl W.heap.size W)
    clear y9
    cases r1 with
    | some ns =>
     simp only [Option.isSome_some, Option.getD_some] at hc1
     have HSE3 := qH0 (HSF.out ns hA HR1.out)
     gi_wp2_with (fail)
     refine ⟨trivial, ?_⟩
     refine (CallsIn.inRound l (callsIn_wide.2 hc1)).mono ?_
     rintro e w6 ⟨cs6, rfl, hf6, hb6⟩
     obtain ⟨⟨g0, h0, i0⟩, ⟨g3, h3, i3⟩, ds6, rfl, f6⟩ := id hf6
     have hA6 := (Below.refl w6.heap.size w6).alloc (qN0) (.cells #[.slice g0 h0 i0, .int .i64 ns.ty, .int .u32 (ns.ttl : Int), .slice g3 h3 i3] 38)
     have HW6 := qH0 ((qB0 hb6 hA6))
     have X9 := qH0 (knew w6 (.cells #[.slice g0 h0 i0, .int .i64 ns.ty, .int .u32 (ns.ttl : Int), .slice g3 h3 i3] 38))
     have k0 := kcell X9.out 0 _ rfl; have k1 := kcell X9.out 1 _ rfl; have k2 := kcell X9.out 2 _ rfl; have k3 := kcell X9.out 3 _ rfl
     have hf7 := FrSet.weakF (hf6.below hA6) HWS.out
     have hww6 := qB0 HW.out HW6.out
     have hrn := qkd W2.heap.size (cs := [.slice g0 h0 i0, .int .i64 ns.ty, .int .u32 (ns.ttl : Int), .slice g3 h3 i3]) (HZS.out.below hww6) (HNM.out.below HW6.out) HKA.out (fun W' hf => (hf7.move hf).setR) (Nat.le_trans HWS.out HW6.out.size) (ofM_ok (fun r hr => HZS.out.2.2.2.1 r (List.mem_filter.1 hr).1) HR1.out).2 (by have q1 := qbO (onM rs q) n 2; rw [HR1.out] at q1; have := qeM rs q; have := HRL.out; simp only [Option.getD_some] at q1; omega)
     obtain ⟨y0, y1, y2, y6, y9⟩ := HCELL.out _ HW6.out
     clear hc1 hf6 f6 hb6 hA6 hf7 hww6 y9
     generalize (ns.ttl : Int) = tt at *
     generalize ns.ty = ty at *
     gi_wp2_with (fail)
     refine ⟨trivial, ?_⟩
     refine (CallsIn.inRound l (callsIn_wide.2 hrn)).mono ?_
     rintro e w8 ⟨cs8, rfl, hst8, hb8⟩
     obtain ⟨⟨a1, b1, c1⟩, ⟨a2, b2, c2⟩, ⟨a4, b4, c4⟩, rfl⟩ := (hst8 w8 (FarKeep.refl _ _)).shape
     have HW8 := qH0 (qB0 HW6.out hb8)
     have HX8 := qH0 (HCELL.out _ HW8.out).2.2.2.2
     have x2 := HX8.out
     have z0 := kcell x2 0 _ rfl; have z1 := kcell x2 1 _ rfl; have z2 := kcell x2 2 _ rfl; have z3 := kcell x2 3 _ rfl; have z4 := kcell x2 4 _ rfl
     have u0 := qab x2 0; have u1 := qab x2 1; have u2 := qab x2 2; have u3 := qab x2 3; have u4 := qab x2 4
     have HST8 := qH0 hst8
     clear hrn hst8 hb8 x2 k0 k1 k2 k3 y0 y1 y2 y6
     have HPUT := qH0 (qf5 (w := w) (W2 := W2) (N := N) (pre := pre) (x := x) HX8.out (by have := HZ2.out; have := HZ3.out; omega) (by omega) (qB0 HW.out HW8.out) HNO.out HSE3.out HST8.out)
     generalize (referM rs n ns).kind = kd at *
     generalize (referM rs n ns).wild = wl at *
     unfold slW at HPUT
     unfold slW
     simp only at HPUT ⊢
     gi_wp2
     exact ⟨((KeepsOthers.of_below HW8.out).trans (((((KeepsOthers.setCell _ _ _).trans (KeepsOthers.setCell _ _ _)).trans (KeepsOthers.setCell _ _ _)).trans (KeepsOthers.setCell _ _ _)).trans (KeepsOthers.setCell _ _ _))).from _, HPUT.out⟩
    | none =>
     simp only [Option.isSome_none, Option.getD_none] at hc1
     have HSE1 := qH0 (HSE.out (.inr HR1.out))
     gi_wp2_with (fail)
     refine ⟨trivial, ?_⟩
     refine (CallsIn.inRound l (callsIn_wide.2 hc1)).mono ?_
     rintro e w5 ⟨cs5, rfl, hf5, hb5⟩
     obtain ⟨x50, x53, ty5, tt5, e5⟩ : ∃ (x0 x3 : Option Addr × Nat × Nat) (ty tt : Int), cs5 = [.slice x0.1 x0.2.1 x0.2.2, .int .i64 ty, .int .u32 tt, .slice x3.1 x3.2.1 x3.2.2] := by
      obtain ⟨x0, x3, ds, e, _⟩ := hf5
      exact ⟨x0, x3, _, _, e⟩
     obtain ⟨s0, s1, s2⟩ := x50
     obtain ⟨s3, s4, s5⟩ := x53
     simp only at e5
     subst e5
     have hA5 := (Below.refl w5.heap.size w5).alloc (qN0) (.cells #[.slice s0 s1 s2, .int .i64 ty5, .int .u32 tt5, .slice s3 s4 s5] 38)
     have HWX := qH0 (qB0 hb5 hA5)
     have HWX2 := qH0 (Nat.le_trans HWS.out HWX.out.size)
     clear hc1 hf5 hb5 hA5 y0 y1 y2 y6
     have hcc := HCELL.out _ HWX.out
     obtain ⟨y0, y1, y2, y6, y9⟩ := hcc
     have Y9 := qH0 y9
     clear y9
     by_cases hBq : s < qo
     ·have hBz : (s : Int) < (qo : Int) := by omega
      have HSE2 : Hid (stepM o (onM rs q) rs q (zn + x.val) = match ofM (onM rs q) n 39 with | some d => if pointD d then some (qaK q n d) else none | none => none) := qH0 (by rw [HSE1.out, if_pos hBq])
      have hc2 := HOF.out 39 _ HWX.out
      obtain ⟨r2, hr2⟩ : ∃ r, ofM (onM rs q) n 39 = r := ⟨_, rfl⟩
      have HR2 := qH0 hr2
      unfold qb9 at hc2
      rw [hr2] at hc2 HSE2
      clear hr2
      cases r2 with
      | none =>
       simp only [Option.isSome_none, Option.getD_none] at hc2
       gi_wp2_with (fail)
       refine ⟨trivial, ?_⟩
       refine (CallsIn.inRound l (callsIn_wide.2 hc2)).mono ?_
       rintro e w6 ⟨cs6, rfl, hf6, hb6⟩
       obtain ⟨⟨g0, h0, i0⟩, ⟨g3, h3, i3⟩, ds6, rfl, f6⟩ := id hf6
       have hA6 := (Below.refl w6.heap.size w6).alloc (qN0) (.cells #[.slice g0 h0 i0, .int .i64 ((⟨[], 0, 0, []⟩ : St).ty), .int .u32 (((⟨[], 0, 0, []⟩ : St).ttl : Nat) : Int), .slice g3 h3 i3] 38)
       have HW6 := qH0 (HWX.out.trans ((qB0 hb6 hA6).mono HWX.out.size))
       clear hc2 hf6 f6 hb6 hA6
       gi_wp2
       refine ⟨trivial, ?_⟩
       gi_wp2
       exact ⟨(KeepsOthers.of_below HW6.out).from _, HW6.out.block _ HB2L.out, qB0 HBW.out HW6.out, HEND.out HSE2.out⟩
      | some d =>
       simp only [Option.isSome_some, Option.getD_some] at hc2
       gi_wp2_with (fail)
       refine ⟨trivial, ?_⟩
       refine (CallsIn.inRound l (callsIn_wide.2 hc2)).mono ?_
       rintro e w6 ⟨cs6, rfl, hf6, hb6⟩
       obtain ⟨⟨g0, h0, i0⟩, ⟨g3, h3, i3⟩, ds6, rfl, f6⟩ := id hf6
       have hA6 := (Below.refl w6.heap.size w6).alloc (qN0) (.cells #[.slice g0 h0 i0, .int .i64 d.ty, .int .u32 (d.ttl : Int), .slice g3 h3 i3] 38)
       have HW6 := qH0 (HWX.out.trans ((qB0 hb6 hA6).mono HWX.out.size))
       have X9 := qH0 (knew w6 (.cells #[.slice g0 h0 i0, .int .i64 d.ty, .int .u32 (d.ttl : Int), .slice g3 h3 i3] 38))
       have k0 := kcell X9.out 0 _ rfl; have k1 := kcell X9.out 1 _ rfl; have k2 := kcell X9.out 2 _ rfl; have k3 := kcell X9.out 3 _ rfl
       have hf7 := FrSet.weakF (hf6.below hA6) HWX2.out
       have HF := qH0 hf7
       have hpt := qcC _ d _ hf7.setR
       have hcz := (HCELL.out _ HW6.out)
       clear hc2 hf6 f6 hb6 hA6 hf7 y0 y1 y2 y6
       generalize (d.ttl : Int) = tt at *
       generalize d.ty = ty at *
       cases hpd : pointD d with
       | false =>
        rw [hpd] at hpt
        have HSE3 : Hid (stepM o (onM rs q) rs q (zn + x.val) = none) := qH0 (by rw [HSE2.out]; simp [hpd])
        obtain ⟨y0, y1, y2, y6, y9⟩ := hcz
        clear hpd y9
        gi_wp2_with (fail)
        refine ⟨trivial, ?_⟩
        refine (CallsIn.inRound l (callsIn_wide.2 hpt)).mono ?_
        rintro e w7 ⟨rfl, hb7⟩
        have HW7 := qH0 (qB0 HW6.out hb7)
        clear hpt hb7 k0 k1 k2 k3 y0 y1 y2 y6
        gi_wp2
        exact ⟨(KeepsOthers.of_below HW7.out).from _, HW7.out.block _ HB2L.out, qB0 HBW.out HW7.out, HEND.out HSE3.out⟩
       | true =>
        rw [hpd] at hpt
        have HSE3 : Hid (stepM o (onM rs q) rs q (zn + x.val) = some (qaK q n d)) := qH0 (by rw [HSE2.out]; simp [hpd])
        have HKT : Hid (NmOK (firstN d)) := qH0 (by
         obtain ⟨d', q1, q2⟩ := qbC hpd
         exact ((ofM_ok (fun r hr => HZS.out.2.2.2.1 r (List.mem_filter.1 hr).1) HR2.out).2 d' q1).2.2.1 _ q2)
        have HALD : Hid (NmOK (q.take (q.length - n.length) ++ firstN d)) := qH0 (HAL.out s d (by rw [HNE.out]; exact HR2.out) hpd _)
        have HPD := qH0 hpd
        obtain ⟨y0, y1, y2, y6, y9⟩ := hcz
        clear hpd y9
        gi_wp2_with (fail)
        refine ⟨trivial, ?_⟩
        refine (CallsIn.inRound l (callsIn_wide.2 hpt)).mono ?_
        rintro e w7 ⟨rfl, hb7⟩
        have HW7 := qH0 (qB0 HW6.out hb7)
        have x9 := (hb7.block _ (qaa X9.out)).trans X9.out
        have hfm := (HF.out.below hb7)
        have hrn := qeQ W2.heap.size (.slice ao qo co) (.slice na s nc) q n _ d w7 (HQS.out.below (qB0 HW.out HW7.out)) (HNM.out.below HW7.out) HKQ.out HKA.out (fun W' hf => (hfm.move hf).setR) (qB0 HBW.out HW7.out).size HPD.out HKT.out HALD.out
        clear hpt hb7 k0 k1 k2 k3 y0 y1 y2 y6
        have k0 := kcell x9 0 _ rfl; have k1 := kcell x9 1 _ rfl; have k2 := kcell x9 2 _ rfl; have k3 := kcell x9 3 _ rfl
        obtain ⟨y0, y1, y2, y6, y9⟩ := HCELL.out _ HW7.out
        clear hfm x9 y9
        gi_wp2_with (fail)
        refine ⟨trivial, ?_⟩
        refine (CallsIn.inRound l (callsIn_wide.2 hrn)).mono ?_
        rintro e w8 ⟨cs8, rfl, hst8, hb8⟩
        obtain ⟨⟨a1, b1, c1⟩, ⟨a2, b2, c2⟩, ⟨a4, b4, c4⟩, rfl⟩ := (hst8 w8 (FarKeep.refl _ _)).shape
        have HW8 := qH0 (qB0 HW7.out hb8)
        have HX8 := qH0 (HCELL.out _ HW8.out).2.2.2.2
        have x2 := HX8.out
        have z0 := kcell x2 0 _ rfl; have z1 := kcell x2 1 _ rfl; have z2 := kcell x2 2 _ rfl; have z3 := kcell x2 3 _ rfl; have z4 := kcell x2 4 _ rfl
        have u0 := qab x2 0; have u1 := qab x2 1; have u2 := qab x2 2; have u3 := qab x2 3; have u4 := qab x2 4
        have HST8 := qH0 hst8
        clear hrn hst8 hb8 x2 k0 k1 k2 k3 y0 y1 y2 y6
        have HPUT := qH0 (qf5 (w := w) (W2 := W2) (N := N) (pre := pre) (x := x) HX8.out (by have := HZ2.out; have := HZ3.out; omega) (by omega) (qB0 HW.out HW8.out) HNO.out HSE3.out HST8.out)
        generalize (qaK q n d).kind = kd at *
        generalize (qaK q n d).wild = wl at *
        unfold slW at HPUT
        unfold slW
        simp only at HPUT ⊢
        gi_wp2
        have hpg := qar w8 (w.heap.size + 1 + 1) (.int .i64 kd) (.slice a1 b1 c1) (.slice a2 b2 c2) (.bool wl) (.slice a4 b4 c4)
        exact ⟨((KeepsOthers.of_below HW8.out).trans (((((KeepsOthers.setCell _ _ _).trans (KeepsOthers.setCell _ _ _)).trans (KeepsOthers.setCell _ _ _)).trans (KeepsOthers.setCell _ _ _)).trans (KeepsOthers.setCell _ _ _))).from _, HPUT.out⟩
     ·have hBz : ¬ (s : Int) < (qo : Int) := by omega
      have HSE2 : Hid (stepM o (onM rs q) rs q (zn + x.val) = none) := qH0 (by rw [HSE1.out, if_neg hBq])
      gi_wp2
      exact ⟨(KeepsOthers.of_below HWX.out).from _, HWX.out.block _ HB2L.out, qB0 HBW.out HWX.out, HEND.out HSE2.out⟩
   ·have hAz : ¬ (zn : Int) < (s : Int) := by omega
    have HSE1 := qH0 (HSE.out (.inl hA))
    have HWX := qH0 (Below.refl W.heap.size W)
    have HWX2 := qH0 HBW.out.size
    have hcc := HCELL.out _ HWX.out
    obtain ⟨y0, y1, y2, y6, y9⟩ := hcc
    have Y9 := qH0 y9
    clear y9
    by_cases hBq : s < qo
    ·have hBz : (s : Int) < (qo : Int) := by omega
     have HSE2 : Hid (stepM o (onM rs q) rs q (zn + x.val) = match ofM (onM rs q) n 39 with | some d => if pointD d then some (qaK q n d) else none | none => none) := qH0 (by rw [HSE1.out, if_pos hBq])
     have hc2 := HOF.out 39 _ HWX.out
     obtain ⟨r2, hr2⟩ : ∃ r, ofM (onM rs q) n 39 = r := ⟨_, rfl⟩
     have HR2 := qH0 hr2
     unfold qb9 at hc2
     rw [hr2] at hc2 HSE2
     clear hr2
     cases r2 with
     | none =>
      simp only [Option.isSome_none, Option.getD_none] at hc2
      gi_wp2_with (fail)
      refine ⟨trivial, ?_⟩
      refine (CallsIn.inRound l (callsIn_wide.2 hc2)).mono ?_
      rintro e w6 ⟨cs6, rfl, hf6, hb6⟩
      obtain ⟨⟨g0, h0, i0⟩, ⟨g3, h3, i3⟩, ds6, rfl, f6⟩ := id hf6
      have hA6 := (Below.refl w6.heap.size w6).alloc (qN0) (.cells #[.slice g0 h0 i0, .int .i64 ((⟨[], 0, 0, []⟩ : St).ty), .int .u32 (((⟨[], 0, 0, []⟩ : St).ttl : Nat) : Int), .slice g3 h3 i3] 38)
      have HW6 := qH0 (HWX.out.trans ((qB0 hb6 hA6).mono HWX.out.size))
      clear hc2 hf6 f6 hb6 hA6
      gi_wp2
      refine ⟨trivial, ?_⟩
      gi_wp2
      exact ⟨(KeepsOthers.of_below HW6.out).from _, HW6.out.block _ HB2L.out, qB0 HBW.out HW6.out, HEND.out HSE2.out⟩
     | some d =>
      simp only [Option.isSome_some, Option.getD_some] at hc2
      gi_wp2_with (fail)
      refine ⟨trivial, ?_⟩
      refine (CallsIn.inRound l (callsIn_wide.2 hc2)).mono ?_
      rintro e w6 ⟨cs6, rfl, hf6, hb6⟩
      obtain ⟨⟨g0, h0, i0⟩, ⟨g3, h3, i3⟩, ds6, rfl, f6⟩ := id hf6
      have hA6 := (Below.refl w6.heap.size w6).alloc (qN0) (.cells #[.slice g0 h0 i0, .int .i64 d.ty, .int .u32 (d.ttl : Int), .slice g3 h3 i3] 38)
      have HW6 := qH0 (HWX.out.trans ((qB0 hb6 hA6).mono HWX.out.size))
      have X9 := qH0 (knew w6 (.cells #[.slice g0 h0 i0, .int .i64 d.ty, .int .u32 (d.ttl : Int), .slice g3 h3 i3] 38))
      have k0 := kcell X9.out 0 _ rfl; have k1 := kcell X9.out 1 _ rfl; have k2 := kcell X9.out 2 _ rfl; have k3 := kcell X9.out 3 _ rfl
      have hf7 := FrSet.weakF (hf6.below hA6) HWX2.out
      have HF := qH0 hf7
      have hpt := qcC _ d _ hf7.setR
      have hcz := (HCELL.out _ HW6.out)
      clear hc2 hf6 f6 hb6 hA6 hf7 y0 y1 y2 y6
      generalize (d.ttl : Int) = tt at *
      generalize d.ty = ty at *
      cases hpd : pointD d with
      | false =>
       rw [hpd] at hpt
       have HSE3 : Hid (stepM o (onM rs q) rs q (zn + x.val) = none) := qH0 (by rw [HSE2.out]; simp [hpd])
       obtain ⟨y0, y1, y2, y6, y9⟩ := hcz
       clear hpd y9
       gi_wp2_with (fail)
       refine ⟨trivial, ?_⟩
       refine (CallsIn.inRound l (callsIn_wide.2 hpt)).mono ?_
       rintro e w7 ⟨rfl, hb7⟩
       have HW7 := qH0 (qB0 HW6.out hb7)
       clear hpt hb7 k0 k1 k2 k3 y0 y1 y2 y6
       gi_wp2
       exact ⟨(KeepsOthers.of_below HW7.out).from _, HW7.out.block _ HB2L.out, qB0 HBW.out HW7.out, HEND.out HSE3.out⟩
      | true =>
       rw [hpd] at hpt
       have HSE3 : Hid (stepM o (onM rs q) rs q (zn + x.val) = some (qaK q n d)) := qH0 (by rw [HSE2.out]; simp [hpd])
       have HKT : Hid (NmOK (firstN d)) := qH0 (by
        obtain ⟨d', q1, q2⟩ := qbC hpd
        exact ((ofM_ok (fun r hr => HZS.out.2.2.2.1 r (List.mem_filter.1 hr).1) HR2.out).2 d' q1).2.2.1 _ q2)
       have HALD : Hid (NmOK (q.take (q.length - n.length) ++ firstN d)) := qH0 (HAL.out s d (by rw [HNE.out]; exact HR2.out) hpd _)
       have HPD := qH0 hpd
       obtain ⟨y0, y1, y2, y6, y9⟩ := hcz
       clear hpd y9
       gi_wp2_with (fail)
       refine ⟨trivial, ?_⟩
       refine (CallsIn.inRound l (callsIn_wide.2 hpt)).mono ?_
       rintro e w7 ⟨rfl, hb7⟩
       have HW7 := qH0 (qB0 HW6.out hb7)
       have x9 := (hb7.block _ (qaa X9.out)).trans X9.out
       have hfm := (HF.out.below hb7)
       have hrn := qeQ W2.heap.size (.slice ao qo co) (.slice na s nc) q n _ d w7 (HQS.out.below (qB0 HW.out HW7.out)) (HNM.out.below HW7.out) HKQ.out HKA.out (fun W' hf => (hfm.move hf).setR) (qB0 HBW.out HW7.out).size HPD.out HKT.out HALD.out
       clear hpt hb7 k0 k1 k2 k3 y0 y1 y2 y6
       have k0 := kcell x9 0 _ rfl; have k1 := kcell x9 1 _ rfl; have k2 := kcell x9 2 _ rfl; have k3 := kcell x9 3 _ rfl
       obtain ⟨y0, y1, y2, y6, y9⟩ := HCELL.out _ HW7.out
       clear hfm x9 y9
       gi_wp2_with (fail)
       refine ⟨trivial, ?_⟩
       refine (CallsIn.inRound l (callsIn_wide.2 hrn)).mono ?_
       rintro e w8 ⟨cs8, rfl, hst8, hb8⟩
       obtain ⟨⟨a1, b1, c1⟩, ⟨a2, b2, c2⟩, ⟨a4, b4, c4⟩, rfl⟩ := (hst8 w8 (FarKeep.refl _ _)).shape
       have HW8 := qH0 (qB0 HW7.out hb8)
       have HX8 := qH0 (HCELL.out _ HW8.out).2.2.2.2
       have x2 := HX8.out
       have z0 := kcell x2 0 _ rfl; have z1 := kcell x2 1 _ rfl; have z2 := kcell x2 2 _ rfl; have z3 := kcell x2 3 _ rfl; have z4 := kcell x2 4 _ rfl
       have u0 := qab x2 0; have u1 := qab x2 1; have u2 := qab x2 2; have u3 := qab x2 3; have u4 := qab x2 4
       have HST8 := qH0 hst8
       clear hrn hst8 hb8 x2 k0 k1 k2 k3 y0 y1 y2 y6
       have HPUT := qH0 (qf5 (w := w) (W2 := W2) (N := N) (pre := pre) (x := x) HX8.out (by have := HZ2.out; have := HZ3.out; omega) (by omega) (qB0 HW.out HW8.out) HNO.out HSE3.out HST8.out)
       generalize (qaK q n d).kind = kd at *
       generalize (qaK q n d).wild = wl at *
       unfold slW at HPUT
       unfold slW
       simp only at HPUT ⊢
       gi_wp2
       have hpg := qar w8 (w.heap.size + 1 + 1) (.int .i64 kd) (.slice a1 b1 c1) (.slice a2 b2 c2) (.bool wl) (.slice a4 b4 c4)
       exact ⟨((KeepsOthers.of_below HW8.out).trans (((((KeepsOthers.setCell _ _ _).trans (KeepsOthers.setCell _ _ _)).trans (KeepsOthers.setCell _ _ _)).trans (KeepsOthers.setCell _ _ _)).trans (KeepsOthers.setCell _ _ _))).from _, HPUT.out⟩
    ·have hBz : ¬ (s : Int) < (qo : Int) := by omega
     have HSE2 : Hid (stepM o (onM rs q) rs q (zn + x.val) = none) := qH0 (by rw [HSE1.out, if_neg hBq])
     gi_wp2
     exact ⟨(KeepsOthers.of_below HWX.out).from _, HWX.out.block _ HB2L.out, qB0 HBW.out HWX.out, HEND.out HSE2.out⟩
  case done =>
   rintro D xs W hD rfl ⟨hB, hno⟩ hK
   have HC : Hid (res = if qaq o rs q then atM (onM rs q) q t else if qaT o rs q then { atM rs (starM o rs q) t with wild := true } else ⟨3, [], [], false, []⟩) := qH0 (by
    have h := HL.out
    rw [HQN.out, ← HZL.out, ← HN.out, qeI (fun x => hno x (List.mem_finRange _))] at h
    exact h)
   have hww := qB0 HWW.out hB
   have hd3 : w.heap.size ≤ D := by have := HZ2.out; have := HZ3.out; omega
   have hd1 : D ≠ w.heap.size + 1 + 1 := by have := HZ2.out; have := HZ3.out; omega
   have x0 := (hB.block _ (qaa X0.out)).trans X0.out
   have x1 := (hB.block _ (qaa X1.out)).trans X1.out
   have HX2 := qH0 ((hB.block _ (qaa X2.out)).trans X2.out)
   have HX6 := qH0 ((hB.block _ X6.out.lt).trans X6.out)
   have HX0 := qH0 x0; have HX1 := qH0 x1
   have y0 := kcell x0 0 _ rfl; have y1 := kcell x0 1 _ rfl; have y2 := kcell x1 0 _ rfl
   have hex := HEX.out W hww
   have HW := qH0 hww; have HKD := qH0 hK; have HBW := qH0 hB
   clear hno hww hK x0 x1 HEX hB
   go_wp2_with fail
   refine hex.mono ?_
   rintro e w5 ⟨rfl, hb5⟩
   have HW5 := qH0 (qB0 HW.out hb5)
   have x0 := (hb5.block _ (qaa HX0.out)).trans HX0.out
   have x1 := (hb5.block _ (qaa HX1.out)).trans HX1.out
   have x6 := (hb5.block _ (qaa HX6.out)).trans HX6.out
   have y0 := kcell x0 0 _ rfl; have y1 := kcell x0 1 _ rfl; have y2 := kcell x1 0 _ rfl; have y6 : w5.cell? ⟨w2.heap.size, 0, none⟩ = some (.slice da dl dc) := Boxed.cell x6
   have Z2 := qH0 ((hb5.block _ (qaa HX2.out)).trans HX2.out)
   have ZD := qH0 ((hb5.block _ (qaa HKD.out)).trans HKD.out)
   have Z0 := qH0 x0; have Z1 := qH0 x1
   have HON5 := qH0 ((HON.out.below (HBW.out : Below W2.heap.size W2 W)).below hb5)
   have HL5 := qH0 (show w.heap.size + 1 + 1 < w5.heap.size from qaa Z2.out)
   have HRL : Hid (rs.length ≤ 1048576) := qH0 (by
    obtain ⟨_, _, ⟨css, q1, q2⟩, _, q3⟩ := HZS.out
    obtain ⟨_, _, e, _⟩ := q1
    injection e with _ e _
    have := q2.1; omega)
   clear hex hb5 HX0 HX1 HX2 HX6 HKD HW x0 x1 x6
   cases hex2 : qaq o rs q with
   | true =>
    have HC : Hid (res = atM (onM rs q) q t) := qH0 (by rw [HC.out, if_pos hex2])
    have hat := qjc (.slice da dl dc) (.slice ao qo co) q t (onM rs q) w5 HON5.out (HQS.out.below HW5.out) HKQ.out (fun r hr => HZS.out.2.2.2.1 r (List.mem_filter.1 hr).1) (by have := qeM rs q; have := HRL.out; omega)
    clear hex2 HSR
    go_wp2_with fail
    refine hat.mono ?_
    rintro e w6 ⟨cs6, rfl, hst6, hb6⟩
    obtain ⟨⟨a1, b1, c1⟩, ⟨a2, b2, c2⟩, ⟨a4, b4, c4⟩, rfl⟩ := (hst6 w6 (FarKeep.refl _ _)).shape
    have x2 := (hb6.block _ (qaa Z2.out)).trans Z2.out
    have HX := qH0 x2
    have z0 := kcell x2 0 _ rfl; have z1 := kcell x2 1 _ rfl; have z2 := kcell x2 2 _ rfl; have z3 := kcell x2 3 _ rfl; have z4 := kcell x2 4 _ rfl
    have u0 := qab x2 0; have u1 := qab x2 1; have u2 := qab x2 2; have u3 := qab x2 3; have u4 := qab x2 4
    have HKD := qH0 ((hb6.block _ (qaa ZD.out)).trans ZD.out)
    have HW6 := qH0 (qB0 HW5.out hb6)
    have HST := qH0 hst6
    have HS5 := qH0 HW5.out.size
    clear hat hst6 hb6 x2 y0 y1 y2 y6
    unfold slW at *
    simp only at *
    generalize hk : (atM (onM rs q) q t).kind = kd at *
    generalize hwl : (atM (onM rs q) q t).wild = wl at *
    go_wp2
    have hkd := (qar w6 (w.heap.size + 1 + 1) (.int .i64 kd) (.slice a1 b1 c1) (.slice a2 b2 c2) (.bool wl) (.slice a4 b4 c4)).block D (qaa HKD.out) (fun e => by injection e with e; exact hd1 e) |>.trans HKD.out
    refine ⟨by simp, .inl ⟨_, _, rfl, run_takeDeferred hkd, ?_⟩⟩
    have hx' := (World.putObj_heap_other (r := D) (o := .deferred none) (fun e => hd1 e.symm)).trans (qce HX.out (.int .i64 kd) (.slice a1 b1 c1) (.slice a2 b2 c2) (.bool wl) (.slice a4 b4 c4))
    refine ⟨_, qb5 rfl _ _ rfl rfl rfl rfl rfl rfl (kcell hx' 0 _ rfl) (kcell hx' 1 _ rfl) (kcell hx' 2 _ rfl) (kcell hx' 3 _ rfl) (kcell hx' 4 _ rfl), ?_⟩
    rw [HC.out]
    refine ⟨_, rfl, fun W' hf => ?_, qal (qas HW6.out (by omega) _ _ _ _ _) hd3 (qN0)⟩
    exact qdt (n := w5.heap.size) (fun W'' hf2 => HST.out W'' ((qaR w6 HL5.out _ _ _ _ _).trans (qar _ _ _ _ _ _ _).size hf2)) (grownBy_putObj' _ D (.deferred none)) (fun b e => by cases e; exact ⟨_, hkd, rfl⟩) W' (hf.mono HS5.out)
   | false =>
    have HC : Hid (res = if qaT o rs q then { atM rs (starM o rs q) t with wild := true } else ⟨3, [], [], false, []⟩) := qH0 (by rw [HC.out, if_neg (by rw [hex2]; decide)])
    have hsr := HSR.out w5 HW5.out
    unfold qeJ at hsr
    have HSK := qH0 (show NmOK (starM o rs q) from by
     have hE := qey (o := o) (rs := rs) HKQ.out
     have hEl := qdH (o := o) (n := q) rs
     have := HQ1.out
     exact ⟨by unfold starM; rw [List.length_cons]; omega, fun x hx => by
      unfold starM at hx
      rcases List.mem_cons.1 hx with rfl | hx
      ·simp
      ·exact hE.2 x hx⟩)
    clear hex2 HSR
    go_wp2_with fail
    refine hsr.mono ?_
    rintro e w6 ⟨sa, sn, sc, rfl, hnm, hb6⟩
    have HW6 := qH0 (qB0 HW5.out hb6)
    have x0 := (hb6.block _ (qaa Z0.out)).trans Z0.out
    have y1 := kcell x0 1 _ rfl
    have Y2 := qH0 ((hb6.block _ (qaa Z2.out)).trans Z2.out)
    have YD := qH0 ((hb6.block _ (qaa ZD.out)).trans ZD.out)
    have HS6 := qH0 (show w.heap.size + 1 + 1 < w6.heap.size from qaa Y2.out)
    clear hsr hb6 x0 y0 y2 y6 Z0 Z1 Z2 ZD HON5
    cases hso : qaT o rs q with
    | true =>
     rw [hso, if_pos rfl] at hnm
     have HC : Hid (res = { atM rs (starM o rs q) t with wild := true }) := qH0 (by rw [HC.out, if_pos hso])
     have hat := qjc (.slice v1 m c) (.slice sa sn sc) (starM o rs q) t rs w6 (HZS.out.2.2.1 |> fun ⟨css, q1, q2⟩ => ⟨css, SlK.below q1 HW6.out, Rcs.below q2 HW6.out⟩) hnm HSK.out HZS.out.2.2.2.1 HRL.out
     clear hso hnm
     go_wp2_with fail
     refine hat.mono ?_
     rintro e w7 ⟨cs7, rfl, hst7, hb7⟩
     obtain ⟨⟨a1, b1, c1⟩, ⟨a2, b2, c2⟩, ⟨a4, b4, c4⟩, rfl⟩ := (hst7 w7 (FarKeep.refl _ _)).shape
     generalize hAA : atM rs (starM o rs q) t = ans at *
     have x2 := (hb7.block _ (qaa Y2.out)).trans Y2.out
     have HKD7 := qH0 ((hb7.block _ (qaa YD.out)).trans YD.out)
     have HW7 := qH0 (qB0 HW6.out hb7)
     have HST := qH0 hst7
     have HS7 := qH0 HW6.out.size
     have HS8 := qH0 (show w6.heap.size ≤ w7.heap.size from hb7.size)
     obtain ⟨kd, hkd⟩ : ∃ kd, ans.kind = kd := ⟨_, rfl⟩
     obtain ⟨wl, hwl⟩ : ∃ wl, ans.wild = wl := ⟨_, rfl⟩
     have hA8 : Below w7.heap.size w7 (w7.alloc (.cells #[.int .i64 kd, slW (a1, b1, c1), slW (a2, b2, c2), .bool true, slW (a4, b4, c4)] 84)) := (Below.refl _ w7).alloc (qN0) _
     have x3 := (hA8.block _ (qaa x2)).trans x2
     have HX := qH0 x3
     have z0 := kcell x3 0 _ rfl; have z1 := kcell x3 1 _ rfl; have z2 := kcell x3 2 _ rfl; have z3 := kcell x3 3 _ rfl; have z4 := kcell x3 4 _ rfl
     have u0 := qab x3 0; have u1 := qab x3 1; have u2 := qab x3 2; have u3 := qab x3 3; have u4 := qab x3 4
     rw [hkd, hwl] at HST ⊢
     have HKW := qH0 (And.intro hkd hwl)
     have HA8 := qH0 hA8
     clear hat hst7 hb7 x2 x3 y1 hkd hwl hA8
     unfold slW at *
     simp only at *
     go_wp2
     have hkd := (qar (w7.alloc (.cells #[.int .i64 kd, .slice a1 b1 c1, .slice a2 b2 c2, .bool true, .slice a4 b4 c4] 84)) (w.heap.size + 1 + 1) (.int .i64 kd) (.slice a1 b1 c1) (.slice a2 b2 c2) (.bool true) (.slice a4 b4 c4)).block D (Nat.lt_of_lt_of_le (qaa HKD7.out) HA8.out.size) (fun e => by injection e with e; exact hd1 e) |>.trans ((HA8.out.block _ (qaa HKD7.out)).trans HKD7.out)
     refine ⟨by simp, .inl ⟨_, _, rfl, run_takeDeferred hkd, ?_⟩⟩
     have hx' := (World.putObj_heap_other (r := D) (o := .deferred none) (fun e => hd1 e.symm)).trans (qce HX.out (.int .i64 kd) (.slice a1 b1 c1) (.slice a2 b2 c2) (.bool true) (.slice a4 b4 c4))
     refine ⟨_, qb5 rfl _ _ rfl rfl rfl rfl rfl rfl (kcell hx' 0 _ rfl) (kcell hx' 1 _ rfl) (kcell hx' 2 _ rfl) (kcell hx' 3 _ rfl) (kcell hx' 4 _ rfl), ?_⟩
     rw [HC.out]
     refine ⟨_, rfl, fun W' hf => ?_, qal (qas (qB0 HW7.out HA8.out) (by omega) _ _ _ _ _) hd3 (qN0)⟩
     exact qdt (n := w6.heap.size) (fun W'' hf2 => qmY (HST.out W'' ((FarKeep.of_below HA8.out).trans HA8.out.size ((qaR _ HS6.out _ _ _ _ _).trans (qar _ _ _ _ _ _ _).size hf2)))) (grownBy_putObj' _ D (.deferred none)) (fun b e => by cases e; exact ⟨_, hkd, rfl⟩) W' (hf.mono HS7.out)
    | false =>
     have HC : Hid (res = ⟨3, [], [], false, []⟩) := qH0 (by rw [HC.out, if_neg (by rw [hso]; decide)])
     have HX := qH0 Y2.out
     have x3 := Y2.out
     have z0 := kcell x3 0 _ rfl; have z1 := kcell x3 1 _ rfl; have z2 := kcell x3 2 _ rfl; have z3 := kcell x3 3 _ rfl; have z4 := kcell x3 4 _ rfl
     have u0 := qab x3 0; have u1 := qab x3 1; have u2 := qab x3 2; have u3 := qab x3 3; have u4 := qab x3 4
     clear hso hnm x3 y1
     go_wp2
     have hkd := (qar w6 (w.heap.size + 1 + 1) (.int .i64 3) (.slice none 0 0) (.slice none 0 0) (.bool false) (.slice none 0 0)).block D (qaa YD.out) (fun e => by injection e with e; exact hd1 e) |>.trans YD.out
     refine ⟨by simp, .inl ⟨_, _, rfl, run_takeDeferred hkd, ?_⟩⟩
     have hx' := (World.putObj_heap_other (r := D) (o := .deferred none) (fun e => hd1 e.symm)).trans (qce HX.out (.int .i64 3) (.slice none 0 0) (.slice none 0 0) (.bool false) (.slice none 0 0))
     refine ⟨_, qb5 rfl _ _ rfl rfl rfl rfl rfl rfl (kcell hx' 0 _ rfl) (kcell hx' 1 _ rfl) (kcell hx' 2 _ rfl) (kcell hx' 3 _ rfl) (kcell hx' 4 _ rfl), ?_⟩
     rw [HC.out]
     exact ⟨_, rfl, fun W' hf => qbb W' 3 false, qal (qas HW6.out (by omega) _ _ _ _ _) hd3 (qN0)⟩
  case stop =>
   rintro D k pre W hD hp ⟨rfl, p, x, r, rfl, hno, hyes, hww, x0, x1, x2, x3, x4, hx, i0, i1, i2, i3, i4, hst⟩ hK
   have HC : Hid (res = r) := qH0 (by
    have h := HL.out
    rw [HQN.out, ← HZL.out, ← HN.out, qmP hp hno hyes] at h
    exact h)
   have hd3 : w.heap.size ≤ D := by have := HZ2.out; have := HZ3.out; omega
   have hd1 : D ≠ w.heap.size + 1 + 1 := by have := HZ2.out; have := HZ3.out; omega
   have HX := qH0 hx; have HW := qH0 hww; have HKD := qH0 hK; have HST := qH0 hst
   have HI := qH0 (And.intro i0 (And.intro i1 (And.intro i2 (And.intro i3 i4))))
   clear hno hyes hww hK hst hx hp i0 i1 i2 i3 i4
   gi_wp2
   refine ⟨by simp, .inl ⟨_, _, rfl, run_takeDeferred HKD.out, ?_⟩⟩
   have hx' : (W.putObj D (.deferred none)).heap[w.heap.size + 1 + 1]? = some (.cells #[x0, x1, x2, x3, x4] 84) := (World.putObj_heap_other (fun e => hd1 e.symm)).trans HX.out
   obtain ⟨j0, j1, j2, j3, j4⟩ := HI.out
   refine ⟨_, qb5 rfl _ _ j0 j1 j2 j3 j4 rfl (kcell hx' 0 _ rfl) (kcell hx' 1 _ rfl) (kcell hx' 2 _ rfl) (kcell hx' 3 _ rfl) (kcell hx' 4 _ rfl), ?_⟩
   rw [HC.out]
   refine ⟨_, rfl, fun W' hf => ?_, qal HW.out hd3 (qN0)⟩
   exact qdt HST.out (grownBy_putObj' W D (.deferred none)) (fun b e => by cases e; exact ⟨_, HKD.out, rfl⟩) W' (hf.mono (by have := HZ2.out; have := HZ3.out; omega))
end
end Go.Proofs.YtckammgnmgkieaaGreat
