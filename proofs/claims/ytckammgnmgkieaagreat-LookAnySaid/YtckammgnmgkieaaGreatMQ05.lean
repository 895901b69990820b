import Derived.Test.YtckammgnmgkieaaGreatMQ15
namespace Go.Proofs.YtckammgnmgkieaaGreat
set_option maxRecDepth 100000
set_option maxHeartbeats 16000000
open Go.RowKit Go.Shelf
theorem lo_len (t : Int) (a3 : Option Addr) (n3 z3 : Nat) (a4 : Option Addr) (n4 z4 : Nat) (a5 : Option Addr) (n5 z5 : Nat) (a6 : Option Addr) (n6 z6 : Nat) : ∀ cs ∈ [[Value.int .i64 t, .slice a3 n3 z3, .slice a4 n4 z4, .slice a5 n5 z5, .slice a6 n6 z6]], cs.length = 5 := by
 intro cs hc
 rw [List.mem_singleton] at hc
 subst hc; rfl
theorem lo_one (t : Int) (a3 : Option Addr) (n3 z3 : Nat) (a4 : Option Addr) (n4 z4 : Nat) (a5 : Option Addr) (n5 z5 : Nat) (a6 : Option Addr) (n6 z6 : Nat) : ∀ cs ∈ [[Value.int .i64 t, .slice a3 n3 z3, .slice a4 n4 z4, .slice a5 n5 z5, .slice a6 n6 z6]], ∀ u ∈ cs, u.oneCell' = true := by
 intro cs hc u hu
 rw [List.mem_singleton] at hc
 subst hc
 simp only [List.mem_cons, List.not_mem_nil, or_false] at hu
 rcases hu with rfl | rfl | rfl | rfl | rfl <;> rfl
theorem qml (w : World) (cs : List Value) (r : Lk) (hA : LkAt w cs r) (hr : LkOK r) :
 Calls Tryz.prog 52 #[.agg cs.toArray] w fun e w' => ∃ ds, e = .returned (.agg ds.toArray) ∧ LkAt w' ds r ∧ Below w.heap.size w w' := by
 obtain ⟨kd, dl, nm, wd, gl⟩ := r
 obtain ⟨⟨a1, b1, c1⟩, ⟨a2, b2, c2⟩, ⟨a4, b4, c4⟩, rfl, ⟨dcs, hd1, hd2⟩, hn, ⟨gcs, hg1, hgl, hg2⟩⟩ := hA
 have hgl : gcs.length = gl.length := hgl
 have hg2 : ∀ j (h1 : j < gcs.length) (h2 : j < gl.length), ∃ x0 x1 : Option Addr × Nat × Nat, gcs[j] = [slW x0, slW x1] ∧ NmAt w (slW x0) gl[j].1 ∧ DtsR w (slW x1) gl[j].2 := hg2
 have hd2 : Dts w dcs dl := hd2
 have hn : NmAt w (slW (a2, b2, c2)) nm := hn
 have hokd : ∀ d ∈ dl, DatOK d := hr.1
 have hld : dl.length ≤ 1048576 := hr.2.1
 have hokg : ∀ g ∈ gl, GlOK g := hr.2.2.2.1
 have hlg : gl.length ≤ 1048576 := hr.2.2.2.2
 have HK2 := qH0 (glr_k2 hgl hg2)
 unfold slW at hd1 hn hg1 ⊢
 simp only at hd1 hn hg1 ⊢
 obtain rfl : b1 = dcs.length := by
  obtain ⟨_, _, e, -⟩ := id hd1
  injection e
 obtain rfl : b4 = gcs.length := by
  obtain ⟨_, _, e, -⟩ := id hg1
  injection e
 obtain ⟨n1, hn1⟩ : ∃ n, dcs.length = n := ⟨_, rfl⟩
 obtain ⟨n4, hn4⟩ : ∃ n, gcs.length = n := ⟨_, rfl⟩
 have hc1 : n1 ≤ c1 := by
  obtain ⟨_, _, e, h, -⟩ := id hd1
  injection e with _ _ e
  omega
 have hc4 : n4 ≤ c4 := by
  obtain ⟨_, _, e, h, -⟩ := id hg1
  injection e with _ _ e
  omega
 rw [hn1] at hd1 ⊢
 rw [hn4] at hg1 ⊢
 have HD1 := qH0 hd1; have HD2 := qH0 hd2; have HNM := qH0 hn; have HG1 := qH0 hg1; have HG2 := qH0 hg2
 have HN1 := qH0 hn1; have HN4 := qH0 hn4
 have HLD := qH0 (show dl.length = n1 by rw [← hn1]; exact hd2.1.symm)
 have HLG := qH0 (show gl.length = n4 by rw [← hn4]; exact hgl.symm)
 have HOKD := qH0 hokd; have HOKG := qH0 hokg
 have hln1 : n1 ≤ 1048576 := by have := HLD.out; omega
 have hln4 : n4 ≤ 1048576 := by have := HLG.out; omega
 clear hd1 hd2 hn hg1 hg2 hgl hokd hokg hld hlg hn1 hn4 hr
 obtain ⟨W0, hW0⟩ : ∃ W, ((w.alloc (.cells #[.int .i64 kd, .slice a1 n1 c1, .slice a2 b2 c2, .bool wd, .slice a4 n4 c4] 84)).alloc (.cells #[.int .i64 0, .slice none 0 0, .slice none 0 0, .bool false, .slice none 0 0] 88)).alloc (.cells #[.int .i64 kd, .slice none 0 0, .slice a2 b2 c2, .bool wd, .slice none 0 0] 88) = W := ⟨_, rfl⟩
 have HB0 : Hid (Below w.heap.size w W0) := qH0 (by rw [← hW0]; exact (((Below.refl w.heap.size w).alloc (qN0) _).alloc (by simp) _).alloc (by simp; omega) _)
 have HZ0 : Hid (W0.heap.size = w.heap.size + 3) := qH0 (by rw [← hW0]; simp)
 have x0 : W0.heap[w.heap.size]? = some (.cells #[.int .i64 kd, .slice a1 n1 c1, .slice a2 b2 c2, .bool wd, .slice a4 n4 c4] 84) := by
  rw [← hW0]; exact (Below.heap_alloc _ _ _ (by simp; omega)).trans ((Below.heap_alloc _ _ _ (by simp)).trans (knew w _))
 have x1 : W0.heap[w.heap.size + 1]? = some (.cells #[.int .i64 0, .slice none 0 0, .slice none 0 0, .bool false, .slice none 0 0] 88) := by
  have h := knew (w.alloc (.cells #[.int .i64 kd, .slice a1 n1 c1, .slice a2 b2 c2, .bool wd, .slice a4 n4 c4] 84)) (.cells #[.int .i64 0, .slice none 0 0, .slice none 0 0, .bool false, .slice none 0 0] 88)
  rw [World.size_alloc] at h
  rw [← hW0]; exact (Below.heap_alloc _ _ _ (by simp)).trans h
 have x2 : W0.heap[w.heap.size + 1 + 1]? = some (.cells #[.int .i64 kd, .slice none 0 0, .slice a2 b2 c2, .bool wd, .slice none 0 0] 88) := by
  have h := knew ((w.alloc (.cells #[.int .i64 kd, .slice a1 n1 c1, .slice a2 b2 c2, .bool wd, .slice a4 n4 c4] 84)).alloc (.cells #[.int .i64 0, .slice none 0 0, .slice none 0 0, .bool false, .slice none 0 0] 88)) (.cells #[.int .i64 kd, .slice none 0 0, .slice a2 b2 c2, .bool wd, .slice none 0 0] 88)
  rw [World.size_alloc, World.size_alloc] at h
  rw [← hW0]; exact h
 have X0 := qH0 x0; have X1 := qH0 x1; have X2 := qH0 x2
 have KB := qH0 (fun (W : World) (hg : W0.grownBy W (some (w.heap.size + 1 + 1))) => (show W.heap[w.heap.size]? = some (.cells #[.int .i64 kd, .slice a1 n1 c1, .slice a2 b2 c2, .bool wd, .slice a4 n4 c4] 84) ∧ W.heap[w.heap.size + 1]? = some (.cells #[.int .i64 0, .slice none 0 0, .slice none 0 0, .bool false, .slice none 0 0] 88) ∧ Below w.heap.size w W from
  ⟨(hg.block _ (qaa X0.out) (fun e => by injection e with e; omega)).trans X0.out, (hg.block _ (qaa X1.out) (fun e => by injection e with e; omega)).trans X1.out, HB0.out.trans (lo_to hg (by omega) HB0.out.size)⟩))
 have HXL : Hid (w.heap.size + 1 + 1 < W0.heap.size) := qH0 (by have := HZ0.out; omega)
 have HRL : Hid (w.heap.size + 1 < W0.heap.size) := qH0 (by have := HZ0.out; omega)
 have HDS : Hid (DOut w W0 (w.heap.size + 1 + 1) 88 (.int .i64 kd) [.slice a2 b2 c2, .bool wd, .slice none 0 0] (dl.take 0) W0) := qH0 ⟨none, 0, 0, [], x2, OwnK.nil _ _, ⟨rfl, fun j h => by simp at h⟩, qeC _ _⟩
 have HW0 := qH0 hW0
 clear x0 x1 x2 hW0
 have w0c : (w.alloc (.cells #[.int .i64 kd, .slice a1 n1 c1, .slice a2 b2 c2, .bool wd, .slice a4 n4 c4] 84)).heap[w.heap.size]? = some (.cells #[.int .i64 kd, .slice a1 n1 c1, .slice a2 b2 c2, .bool wd, .slice a4 n4 c4] 84) := knew w _
 go_enter Tryz.func52, Tryz.ntmps52
 go_wp2
 rw [HW0.out]
 clear HW0 w0c
 go_loopw [4] (fun vi wr => ∃ k : Nat, vi = .int .i64 k ∧ k ≤ n1 ∧ Hid (DOut w W0 (w.heap.size + 1 + 1) 88 (.int .i64 kd) [.slice a2 b2 c2, .bool wd, .slice none 0 0] (dl.take k) wr)) (fun vi _ => n1 - (intOf vi).toNat)
 case atStart => exact ⟨0, rfl, Nat.zero_le _, HDS⟩
 case round =>
  obtain ⟨k, rfl, hk, HDO⟩ := hrel
  clear HDS
  obtain ⟨ga, gn, gc, css, hx, hown, hfr, hg⟩ := HDO.out
  obtain ⟨q0, q1, hwr⟩ := KB.out _ hg
  by_cases hlt : k < n1
  ·have hltz : (k : Int) < (n1 : Int) := by omega
   have hk1 : k < dcs.length := by have := HN1.out; omega
   have hk2 : k < dl.length := by have := HLD.out; omega
   obtain ⟨b, off, rfl, hb, hel⟩ := HD1.out.elem5 HD2.out.ck (by omega)
   have h0 := (HD2.out.2 k hk1 hk2).2
   have hokd := HOKD.out _ (List.getElem_mem hk2)
   have htk : dl.take (k + 1) = dl.take k ++ [dl[k]'hk2] := List.take_succ_eq_append_getElem hk2
   obtain ⟨d, hd⟩ : ∃ d, dl[k]'hk2 = d := ⟨_, rfl⟩
   rw [hd] at h0 htk hokd
   obtain ⟨⟨p3, q3, r3⟩, ⟨p4, q4, r4⟩, ⟨p5, q5, r5⟩, ⟨p6, q6, r6⟩, e0⟩ := qbv h0
   simp only at e0
   obtain ⟨d0, d1, d2, d3, d4⟩ := hel k hk1 _ _ _ _ _ e0 wr hwr
   rw [e0] at h0
   have HC := qH0 (of_out (W := wr.drew) (W0 := W0) (B := w.heap.size + 1 + 1) (fs := dl.take k) (v := .agg #[.int .i64 d.ty, .slice p3 q3 r3, .slice p4 q4 r4, .slice p5 q5 r5, .slice p6 q6 r6]) (css := css) (d := d) (rest := [.slice a2 b2 c2, .bool wd, .slice none 0 0]) (c0 := .int .i64 kd) (T := 88) hx (OwnK.below hown (kdrew (Below.refl _ wr))) (hfr.below (kdrew (Below.refl _ wr))) (qcw hg (kdrew (Below.refl _ wr))) h0 (kdrew hwr) hokd.2.1)
   have hcl : css.length = k := by rw [hfr.1, List.length_take]; omega
   have HLN : Hid (css.length ≤ 1048576) := qH0 (by omega)
   have HBL := HXL
   have HTK := qH0 htk
   have y1 := kcell q0 1 _ rfl
   have c0 := kcell hx 1 (.slice ga gn gc) rfl
   have f0 := qab hx 1
   clear h0 htk hd e0 hel hk1 hk2 hwr hx hown hfr hg hokd hcl q0 q1
   go_wp2_with fail
   go_region_law
    (first
      | (go_simp; (with_reducible refine (HC.out).mono ?_); rintro e w7 ⟨i3, j3, z3, i4, j4, z4, i5, j5, z5, i6, j6, z6, rfl, hn7, hx7, hown7, hfr7, hg7, hb7⟩; have c7 := kcell hx7 1 (.slice ga gn gc) rfl; have hbA := (Below.refl w7.heap.size w7).alloc (qN0) (.cells #[.int .i64 d.ty, .slice i3 j3 z3, .slice i4 j4 z4, .slice i5 j5 z5, .slice i6 j6 z6] 107); have c7A := kcell ((hbA.block _ (qaa hx7)).trans hx7) 1 (.slice ga gn gc) rfl; have hownA := OwnK.below hown7 hbA; have hsA : W0.heap.size ≤ (w7.alloc (.cells #[.int .i64 d.ty, .slice i3 j3 z3, .slice i4 j4 z4, .slice i5 j5 z5, .slice i6 j6 z6] 107)).heap.size := Nat.le_trans hg7.size hbA.size; have hsl : SlK (w7.alloc (.cells #[.int .i64 d.ty, .slice i3 j3 z3, .slice i4 j4 z4, .slice i5 j5 z5, .slice i6 j6 z6] 107)) (.slice (some ⟨w7.heap.size, 0, none⟩) 1 1) [[.int .i64 d.ty, .slice i3 j3 z3, .slice i4 j4 z4, .slice i5 j5 z5, .slice i6 j6 z6]] := qaH (css := [[.int .i64 d.ty, .slice i3 j3 z3, .slice i4 j4 z4, .slice i5 j5 z5, .slice i6 j6 z6]]) (knew w7 _); have HP := qH0 (qag (w7.alloc (.cells #[.int .i64 d.ty, .slice i3 j3 z3, .slice i4 j4 z4, .slice i5 j5 z5, .slice i6 j6 z6] 107)) (.tmp 23) (.tmp 30) qa3 (by decide) W0.heap.size (.slice ga gn gc) css hownA (.slice (some ⟨w7.heap.size, 0, none⟩) 1 1) _ hsl (lo_len _ _ _ _ _ _ _ _ _ _ _ _ _) (lo_one _ _ _ _ _ _ _ _ _ _ _ _ _) hsA (by have := HLN.out; unfold maxLen; simp only [List.length_cons, List.length_nil]; omega) (by have := HLN.out; simp only [List.length_cons, List.length_nil]; omega)); have H7 := qH0 (And.intro hn7 (And.intro hx7 (And.intro hown7 (And.intro hfr7 hg7)))); clear hn7 hx7 hown7 hfr7 hg7 hb7 hbA hownA hsA hsl)
      | ((with_reducible refine HP.out _ _ _ _ _ _ ?_ ?_ ?_ ?_ ?_); exact rfl; exact rfl; exact rfl; exact rfl; intro v8 w8 ho8 hg8; obtain ⟨p1, p2, p3, p4, p5⟩ := H7.out; have hfin := DOut.step (by decide) HBL.out p2 p3 p4 p5 p1 ho8 hg8; obtain ⟨a8, c8, e8⟩ := OwnK.shape ho8; generalize List.length (css ++ _) = n8 at e8; subst e8; have c8' := kcell hfin.2 1 (.slice ga gn gc) rfl; have f8 := qab hfin.2 1; have HF := qH0 hfin.1; clear p1 p2 p3 p4 p5 hfin ho8 hg8 HP H7))
   all_goals
    have HN2 : Hid (DOut w W0 (w.heap.size + 1 + 1) 88 (.int .i64 kd) [.slice a2 b2 c2, .bool wd, .slice none 0 0] (dl.take (k + 1)) (w8.setCell ⟨w.heap.size + 1 + 1, 1, none⟩ (.slice a8 n8 c8))) := qH0 (by rw [HTK.out]; exact HF.out)
    clear HF HTK HC c8' f8 c7 c7A d0 d1 d2 d3 d4 y1 c0 f0
    go_wp2_with fail
    go_roundw
    case measure => simp [intOf]; omega
    case rel => exact ⟨k + 1, by go_num, by omega, HN2⟩
  ·obtain rfl : k = n1 := by omega
   rw [List.take_of_length_le (by have := HLD.out; omega)] at hfr
   have HO2 : Hid (O2 w W0 (w.heap.size + 1 + 1) (.int .i64 kd) (.slice ga gn gc) (.slice a2 b2 c2) (.bool wd) dl (gl.take 0) wr) := qH0 ⟨none, 0, 0, [], css, hx, hown, hfr, OwnK.nil _ _, ⟨rfl, fun j h => by simp at h⟩, hg⟩
   have y1 := kcell q0 1 _ rfl
   clear hx hown hfr hg q1 hwr HDO
   go_wp2
   clear y1 q0
   generalize wr = wm at *
   generalize ga = xa at *
   generalize gn = xn at *
   generalize gc = xc at *
   clear css
   go_loopw [5, 6, 7] (fun vi vg vk wr => ∃ j : Nat, vi = .int .i64 j ∧ j ≤ n4 ∧ Hid (O2 w W0 (w.heap.size + 1 + 1) (.int .i64 kd) (.slice xa xn xc) (.slice a2 b2 c2) (.bool wd) dl (gl.take j) wr)) (fun vi _ _ _ => n4 - (intOf vi).toNat)
   case atStart => exact ⟨0, rfl, Nat.zero_le _, HO2⟩
   case round =>
    obtain ⟨j, rfl, hj, HO⟩ := hrel
    clear HO2
    obtain ⟨ha, hn, hc, gss, css, o1, o2, o3, o4, o5, o6⟩ := HO.out
    obtain ⟨q0, q1, hwr⟩ := KB.out _ o6
    by_cases hlt : j < n4
    ·have hltz : (j : Int) < (n4 : Int) := by omega
     have hk1 : j < gcs.length := by have := HN4.out; omega
     have hk2 : j < gl.length := by have := HLG.out; omega
     obtain ⟨gb, gof, rfl, hgb, hea⟩ := HG1.out.elem2 HK2.out (by omega)
     obtain ⟨⟨p0, u0, r0⟩, ⟨p1, u1, r1⟩, e0, h0, h0'⟩ := HG2.out j hk1 hk2
     have hokg := HOKG.out _ (List.getElem_mem hk2)
     have htk : gl.take (j + 1) = gl.take j ++ [gl[j]'hk2] := List.take_succ_eq_append_getElem hk2
     obtain ⟨g, hgg⟩ : ∃ d, gl[j]'hk2 = d := ⟨_, rfl⟩
     rw [hgg] at h0 h0' htk hokg
     obtain ⟨ecs, hE1, hE2⟩ := h0'
     unfold slW at e0 hE1
     simp only at e0 hE1
     obtain rfl : u1 = ecs.length := by
      obtain ⟨_, _, e, -⟩ := id hE1
      injection e
     obtain ⟨m, hm⟩ : ∃ n, ecs.length = n := ⟨_, rfl⟩
     have hm1 : m ≤ r1 := by
      obtain ⟨_, _, e, h, -⟩ := id hE1
      injection e with _ _ e
      omega
     rw [hm] at hE1 e0
     have HE1 := qH0 hE1; have HE2 := qH0 hE2; have HM := qH0 hm
     have HLM := qH0 (show g.2.length = m by rw [← hm]; exact hE2.1.symm)
     have hmx : m ≤ 1048576 := by have := hokg.2.2; have := HLM.out; omega
     have HOKE := qH0 hokg.2.1
     have HH0 := qH0 h0; have HTK := qH0 htk
     have HEA := qH0 (fun W (hb : Below w.heap.size w W) => hea j hk1 _ _ e0 W hb)
     have hgl' : gss.length = j := by rw [o5.1, List.length_take]; omega
     have HGL := qH0 hgl'
     obtain ⟨ea0, ea1⟩ := HEA.out wr hwr
     have y4 := kcell q0 4 _ rfl
     have hA1 := (Below.refl wr.heap.size wr).alloc (qN0) (.cells #[.slice p0 u0 r0, .slice none 0 0] 155)
     obtain ⟨G, hG⟩ : ∃ b, wr.heap.size = b := ⟨_, rfl⟩
     obtain ⟨W1, hW1⟩ : ∃ W, wr.alloc (.cells #[.slice p0 u0 r0, .slice none 0 0] 155) = W := ⟨_, rfl⟩
     have hX1 := knew wr (.cells #[.slice p0 u0 r0, .slice none 0 0] 155)
     have HZW : Hid (W1.heap.size = wr.heap.size + 1) := qH0 (by rw [← hW1]; simp)
     rw [hW1] at hA1 hX1
     rw [hG] at hX1
     have HA1 := qH0 hA1
     have HGE := qH0 hG; have HW1 := qH0 hW1
     have HGB : Hid (G < W1.heap.size) := qH0 (qaa hX1)
     have HDS : Hid (DOut w W1 G 155 (.slice p0 u0 r0) [] (g.2.take 0) W1) := qH0 ⟨none, 0, 0, [], hX1, OwnK.nil _ _, ⟨rfl, fun j h => by simp at h⟩, qeC _ _⟩
     have HWS := qH0 (show W0.heap.size ≤ W1.heap.size from Nat.le_trans o6.size hA1.size)
     have KW := qH0 (fun (W : World) (hg : W1.grownBy W (some G)) => (show Below wr.heap.size wr W from HA1.out.trans (lo_to hg (by have := HGE.out; omega) HA1.out.size)))
     have KQ := qH0 (fun (W : World) (hb : Below wr.heap.size wr W) => (show W.heap[w.heap.size]? = some (.cells #[.int .i64 kd, .slice a1 k c1, .slice a2 b2 c2, .bool wd, .slice (some ⟨gb, gof, none⟩) n4 c4] 84) ∧ Below w.heap.size w W from ⟨(hb.block _ (qaa q0)).trans q0, qB0 hwr hb⟩))
     have HOW := qH0 (fun (W : World) (hb : Below wr.heap.size wr W) => HO.out.below hb)
     clear e0 h0 htk hokg hE1 hE2 hm hgg hea hk1 hk2 o1 o2 o3 o4 o5 o6 hA1 hX1 hgl' HO hG hW1
     go_wp2
     rw [HW1.out, HGE.out]
     clear HW1 ea0 ea1 y4 q0 q1 hwr
     generalize wr = wo at *
     go_loopw [7] (fun vk wr => ∃ i : Nat, vk = .int .i64 i ∧ i ≤ m ∧ Hid (DOut w W1 G 155 (.slice p0 u0 r0) [] (g.2.take i) wr)) (fun vk _ => m - (intOf vk).toNat)
     case atStart => exact ⟨0, rfl, Nat.zero_le _, HDS⟩
     case round =>
      obtain ⟨i, rfl, hi, HDO⟩ := hrel
      clear HDS
      obtain ⟨ga, gn, gc, css, hx, hown, hfr, hg⟩ := HDO.out
      have hbo := KW.out _ hg
      obtain ⟨q0, hwr⟩ := KQ.out _ hbo
      obtain ⟨ea0, ea1⟩ := HEA.out wr hwr
      have y4 := kcell q0 4 _ rfl
      by_cases hlt2 : i < m
      ·have hltz2 : (i : Int) < (m : Int) := by omega
       have hk1 : i < ecs.length := by have := HM.out; omega
       have hk2 : i < g.2.length := by have := HLM.out; omega
       obtain ⟨b, off, rfl, hb, hel⟩ := HE1.out.elem5 HE2.out.ck (by omega)
       have h0 := (HE2.out.2 i hk1 hk2).2
       have hokd := HOKE.out _ (List.getElem_mem hk2)
       have htk : g.2.take (i + 1) = g.2.take i ++ [g.2[i]'hk2] := List.take_succ_eq_append_getElem hk2
       obtain ⟨d, hd⟩ : ∃ d, g.2[i]'hk2 = d := ⟨_, rfl⟩
       rw [hd] at h0 htk hokd
       obtain ⟨⟨p3, q3, r3⟩, ⟨p4, q4, r4⟩, ⟨p5, q5, r5⟩, ⟨p6, q6, r6⟩, e0⟩ := qbv h0
       simp only at e0
       obtain ⟨d0, d1, d2, d3, d4⟩ := hel i hk1 _ _ _ _ _ e0 wr hwr
       rw [e0] at h0
       have HC := qH0 (of_out (W := wr.drew) (W0 := W1) (B := G) (fs := g.2.take i) (v := .agg #[.int .i64 d.ty, .slice p3 q3 r3, .slice p4 q4 r4, .slice p5 q5 r5, .slice p6 q6 r6]) (css := css) (d := d) (rest := []) (c0 := .slice p0 u0 r0) (T := 155) hx (OwnK.below hown (kdrew (Below.refl _ wr))) (hfr.below (kdrew (Below.refl _ wr))) (qcw hg (kdrew (Below.refl _ wr))) h0 (kdrew hwr) hokd.2.1)
       have hcl : css.length = i := by rw [hfr.1, List.length_take]; omega
       have HLN : Hid (css.length ≤ 1048576) := qH0 (by omega)
       have HBL := HGB
       have HTK2 := qH0 htk
       have c0 := kcell hx 1 (.slice ga gn gc) rfl
       have f0 := qab hx 1
       clear h0 htk hd e0 hel hk1 hk2 hwr hx hown hfr hg hokd hcl q0 hbo
       go_wp2_with fail
       go_region_law
        (first
          | (go_simp; (with_reducible refine (HC.out).mono ?_); rintro e w7 ⟨i3, j3, z3, i4, j4, z4, i5, j5, z5, i6, j6, z6, rfl, hn7, hx7, hown7, hfr7, hg7, hb7⟩; have c7 := kcell hx7 1 (.slice ga gn gc) rfl; have hbA := (Below.refl w7.heap.size w7).alloc (qN0) (.cells #[.int .i64 d.ty, .slice i3 j3 z3, .slice i4 j4 z4, .slice i5 j5 z5, .slice i6 j6 z6] 107); have c7A := kcell ((hbA.block _ (qaa hx7)).trans hx7) 1 (.slice ga gn gc) rfl; have hownA := OwnK.below hown7 hbA; have hsA : W1.heap.size ≤ (w7.alloc (.cells #[.int .i64 d.ty, .slice i3 j3 z3, .slice i4 j4 z4, .slice i5 j5 z5, .slice i6 j6 z6] 107)).heap.size := Nat.le_trans hg7.size hbA.size; have hsl : SlK (w7.alloc (.cells #[.int .i64 d.ty, .slice i3 j3 z3, .slice i4 j4 z4, .slice i5 j5 z5, .slice i6 j6 z6] 107)) (.slice (some ⟨w7.heap.size, 0, none⟩) 1 1) [[.int .i64 d.ty, .slice i3 j3 z3, .slice i4 j4 z4, .slice i5 j5 z5, .slice i6 j6 z6]] := qaH (css := [[.int .i64 d.ty, .slice i3 j3 z3, .slice i4 j4 z4, .slice i5 j5 z5, .slice i6 j6 z6]]) (knew w7 _); have HP := qH0 (qag (w7.alloc (.cells #[.int .i64 d.ty, .slice i3 j3 z3, .slice i4 j4 z4, .slice i5 j5 z5, .slice i6 j6 z6] 107)) (.tmp 59) (.tmp 70) qa3 (by decide) W1.heap.size (.slice ga gn gc) css hownA (.slice (some ⟨w7.heap.size, 0, none⟩) 1 1) _ hsl (lo_len _ _ _ _ _ _ _ _ _ _ _ _ _) (lo_one _ _ _ _ _ _ _ _ _ _ _ _ _) hsA (by have := HLN.out; unfold maxLen; simp only [List.length_cons, List.length_nil]; omega) (by have := HLN.out; simp only [List.length_cons, List.length_nil]; omega)); have H7 := qH0 (And.intro hn7 (And.intro hx7 (And.intro hown7 (And.intro hfr7 hg7)))); clear hn7 hx7 hown7 hfr7 hg7 hb7 hbA hownA hsA hsl)
          | ((with_reducible refine HP.out _ _ _ _ _ _ ?_ ?_ ?_ ?_ ?_); exact rfl; exact rfl; exact rfl; exact rfl; intro v8 w8 ho8 hg8; obtain ⟨p1, p2, p3, p4, p5⟩ := H7.out; have hfin := DOut.step (by decide) HBL.out p2 p3 p4 p5 p1 ho8 hg8; obtain ⟨a8, c8, e8⟩ := OwnK.shape ho8; generalize List.length (css ++ _) = n8 at e8; subst e8; have c8' := kcell hfin.2 1 (.slice ga gn gc) rfl; have f8 := qab hfin.2 1; have HF := qH0 hfin.1; clear p1 p2 p3 p4 p5 hfin ho8 hg8 HP H7))
       all_goals
        have HN2 : Hid (DOut w W1 G 155 (.slice p0 u0 r0) [] (g.2.take (i + 1)) (w8.setCell ⟨G, 1, none⟩ (.slice a8 n8 c8))) := qH0 (by rw [HTK2.out]; exact HF.out)
        clear HF HTK2 HC c8' f8 c7 c7A d0 d1 d2 d3 d4 c0 f0 ea0 ea1 y4
        go_wp2_with fail
        go_roundw
        case measure => simp [intOf]; omega
        case rel => exact ⟨i + 1, by go_num, by omega, HN2⟩
      ·obtain rfl : i = m := by omega
       rw [List.take_of_length_le (by have := HLM.out; omega)] at hfr
       obtain ⟨ha, hn, hc, gss, cs0, o1, o2, o3, o4, o5, o6⟩ := HOW.out wr hbo
       have g0 := kcell hx 0 _ rfl; have g1 := kcell hx 1 (.slice ga gn gc) rfl
       have x4 := kcell o1 4 _ rfl
       have HS := qH0 (fun (v8 : Value) (w8 : World) (h8 : OwnC 2 155 w8 W0.heap.size v8 (gss ++ [[.slice p0 u0 r0, .slice ga gn gc]])) (hg8 : wr.grownBy w8 (Value.slice ha hn hc).ownBlock) => O2.step (x0 := (p0, u0, r0)) (x1 := (ga, gn, gc)) (g := g) HXL.out o1 o2 o3 o4 o5 o6 HH0.out (OwnK.weaken hown HWS.out) (hfr.weaken HWS.out) h8 hg8)
       have hgl' : gss.length = j := by rw [o5.1, List.length_take]; have := HLG.out; omega
       have HGL2 : Hid (gss.length ≤ 1048576) := qH0 (by omega)
       have HO4 := qH0 o4
       have HSZ := qH0 o6.size
       clear o1 o2 o3 o4 o5 o6 hx hown hfr hg hgl' q0 hbo hwr
       go_wp2_with (at_builtin; refine qbn wr rfl (.tmp 74) (.tmp 76) qkM (by decide) rfl W0.heap.size (.slice ha hn hc) gss rfl HO4.out [.slice p0 u0 r0, .slice ga gn gc] rfl (by intro u hu; simp only [List.mem_cons, List.not_mem_nil, or_false] at hu; rcases hu with rfl | rfl <;> rfl) 1 (by rfl) HSZ.out (by have := HGL2.out; unfold maxLen; omega) (by have := HGL2.out; omega) ?_; intro v8 w8 hown8 hg8; have hfin := HS.out v8 w8 hown8 hg8; obtain ⟨a8, c8, e8⟩ := OwnK.shape hown8; generalize List.length (gss ++ _) = n8 at e8; subst e8; have c8' := kcell hfin.2 4 _ rfl; have f8 := qab hfin.2 4; have HF := qH0 hfin.1; clear hfin hown8 hg8 HS)
       have HN2 : Hid (O2 w W0 (w.heap.size + 1 + 1) (.int .i64 kd) (.slice xa xn xc) (.slice a2 b2 c2) (.bool wd) dl (gl.take (j + 1)) (w8.setCell ⟨w.heap.size + 1 + 1, 4, none⟩ (.slice a8 n8 c8))) := qH0 (by rw [HTK.out]; exact HF.out)
       clear HF c8' f8 g0 g1 x4 ea0 ea1 y4
       go_roundw
       case measure => simp [intOf]; omega
       case rel => exact ⟨j + 1, by go_num, by omega, HN2⟩
    ·obtain rfl : j = n4 := by omega
     rw [List.take_of_length_le (by have := HLG.out; omega)] at o5
     have y4 := kcell q0 4 _ rfl
     have z0 := kcell o1 0 _ rfl; have z1 := kcell o1 1 _ rfl; have z2 := kcell o1 2 _ rfl; have z3 := kcell o1 3 _ rfl; have z4 := kcell o1 4 _ rfl
     have s0 := kcell q1 0 _ rfl; have s1 := kcell q1 1 _ rfl; have s2 := kcell q1 2 _ rfl; have s3 := kcell q1 3 _ rfl; have s4 := kcell q1 4 _ rfl
     have u0 := qab q1 0; have u1 := qab q1 1; have u2 := qab q1 2; have u3 := qab q1 3; have u4 := qab q1 4
     have HQ1 := qH0 q1; have HWR := qH0 hwr; have H2 := qH0 o2; have H3 := qH0 o3; have H4 := qH0 o4; have H5 := qH0 o5
     clear o1 o2 o3 o4 o5 o6 q0 q1 hwr HO
     go_wp2
     refine bodyPost_ret (qdy rfl _ (put5 wr (w.heap.size + 1) (.int .i64 kd) (.slice xa xn xc) (.slice a2 b2 c2) (.bool wd) (.slice ha hn hc)) rfl (qc2 HQ1.out _ _ _ _ _)) rfl ?_
     have hf := qaR (n := W0.heap.size) wr HRL.out (.int .i64 kd) (.slice xa xn xc) (.slice a2 b2 c2) (.bool wd) (.slice ha hn hc)
     have hbw := qas HWR.out (show w.heap.size ≤ w.heap.size + 1 by omega) (.int .i64 kd) (.slice xa xn xc) (.slice a2 b2 c2) (.bool wd) (.slice ha hn hc)
     exact ⟨_, rfl, O2.lkAt (X := 0) (x2 := (a2, b2, c2)) (OwnK.move H2.out hf) (H3.out.move hf) (OwnK.move H4.out hf) (H5.out.move hf) HNM.out hbw, hbw⟩
end Go.Proofs.YtckammgnmgkieaaGreat
