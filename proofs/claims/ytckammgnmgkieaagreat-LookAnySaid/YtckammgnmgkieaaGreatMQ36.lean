import Derived.Test.YtckammgnmgkieaaGreatMQ14
namespace Go.Proofs.YtckammgnmgkieaaGreat
set_option maxRecDepth 100000
set_option maxHeartbeats 16000000
open Go.RowKit Go.Shelf Go.WideMaps Go.Maps
theorem qmz {n : Nm} (h : NmOK n) : (textN n).length ≤ 4398047559681 := by
 unfold textN
 split
 ·simp
 ·have : ∀ m : Nm, (∀ x ∈ m, x.length ≤ 1048576) → (m.flatMap fun x => textL x ++ [46]).length ≤ m.length * 4194305 := by
   intro m
   induction m with
   | nil => simp
   | cons x r ih =>
    intro hm
    have h3 := qcd x
    have h4 := hm x (by simp)
    have h5 := ih (fun y hy => hm y (by simp [hy]))
    simp only [List.flatMap_cons, List.length_append, List.length_cons, List.length_nil] at h5 ⊢
    omega
  have h6 := this n h.2
  have h7 := h.1
  omega
theorem ql3 (t : List UInt8) (h : t.length ≤ 4398047559681) : keyOf Tryz.prog 9 (.string ⟨t.toArray⟩) = some (.string t) :=
 keyOf_string_mk Tryz.underlying9 (by unfold maxLen; show t.toArray.size ≤ _; rw [List.size_toArray]; omega)
theorem qkq {ts : List (List UInt8)} {t : List UInt8} : t ∈ ts ↔ 0 < ts.count t := by rw [List.count_pos_iff]
theorem qkd (N : Nat) {w : World} {za v1 : Option Addr} {zn zc m c : Nat} {o n : Nm} {rs : List Rc} {vn : Value} {cs : List Value} {ns : St} (hz : ZonS w za zn zc v1 m c o rs) (hO : NmAt w vn n) (hkn : NmOK n) (hS : ∀ W', FarKeep N w W' → SetR W' cs ns) (hN : N ≤ w.heap.size) (hD : ∀ d ∈ ns.data, DatOK d) (hDl : ns.data.length ≤ 1048576) :
 Calls Tryz.prog 92 #[.agg #[.slice za zn zc, .slice v1 m c], vn, .agg cs.toArray] w (LkPost N w (referM rs n ns)) := by
 obtain ⟨⟨p0, q0, k0⟩, ⟨p3, q3, k3⟩, rfl⟩ := (hS w (FarKeep.refl _ _)).shape
 have HCL := qH0 (fun (W : World) (hb : Below w.heap.size w W) => qaZ vn n W (hO.below hb).1 (hO.below hb).2 (by have := hkn.1; omega))
 have HTG := qH0 (fun (W : World) (hb : Below w.heap.size w W) => by
  obtain ⟨dx, k1, k2, -⟩ := (hS W (FarKeep.of_below hb)).dts (x0 := (p0, q0, k0)) (x3 := (p3, q3, k3))
  exact qin p0 q0 k0 ns.ty (ns.ttl : Int) p3 ns.data.length k3 dx ns.data W k1 k2 hD hDl)
 have HGL := qH0 (fun (vh : Value) (h : Nm) (W : World) (hb : Below w.heap.size w W) (h1 : NmAt W vh h) (h2 : NmOK h) => qjU (hz.below hb) h1 h2)
 have HTO := qH0 (qfl (ty := ns.ty) hD)
 have HTL := qH0 (show (qaM ns.ty ns.data).length ≤ 1048576 by have := qeR ns.ty ns.data; omega)
 have HRF := qH0 (show referM rs n ns = ⟨4, ns.data, n, false, glsM rs (qaM ns.ty ns.data)⟩ from rfl)
 have HSD := qH0 (fun W' (hf : FarKeep N w W') => by
  obtain ⟨dx, k1, k2, -⟩ := (hS W' hf).dts (x0 := (p0, q0, k0)) (x3 := (p3, q3, k3))
  exact (⟨dx, k1, k2⟩ : DtsR W' (.slice p3 ns.data.length k3) ns.data))
 have HNN := qH0 hN
 generalize referM rs n ns = res at *
 generalize qaM ns.ty ns.data = hosts at *
 unfold qjg at HTG
 unfold qgA at HGL
 obtain ⟨ao, co, rfl, -⟩ := nmAt_sl.1 hO
 generalize (List.map strV n).length = qo at *
 obtain ⟨nd, hnd⟩ : ∃ nd, ns.data.length = nd := ⟨_, rfl⟩
 rw [hnd] at HTG HSD ⊢
 clear hz hO hkn hS hN hD hDl hnd
 generalize (ns.ttl : Int) = tt at *
 generalize ns.ty = ty at *
 generalize ns.data = dats at *
 have hmm := @run_makeMap Tryz.prog
 obtain ⟨W0, hW0⟩ : ∃ W0, ((w.alloc (.cells #[.slice za zn zc, .slice v1 m c] 57)).alloc (.cells #[.slice p0 q0 k0, .int .i64 ty, .int .u32 tt, .slice p3 nd k3] 38)).alloc (.cells #[.int .i64 0, .slice none 0 0, .slice none 0 0, .bool false, .slice none 0 0] 84) = W0 := ⟨_, rfl⟩
 have hB0 : Below w.heap.size w W0 := by rw [← hW0]; exact (((Below.refl w.heap.size w).alloc (qN0) _).alloc (by simp) _).alloc (by simp; omega) _
 have hz0 : W0.heap.size = w.heap.size + 3 := by rw [← hW0]; simp
 have x0 : W0.heap[w.heap.size]? = some (.cells #[.slice za zn zc, .slice v1 m c] 57) := by
  rw [← hW0]; exact (Below.heap_alloc _ _ _ (by simp; omega)).trans ((Below.heap_alloc _ _ _ (by simp)).trans (knew w _))
 have x1 : W0.heap[w.heap.size + 1]? = some (.cells #[.slice p0 q0 k0, .int .i64 ty, .int .u32 tt, .slice p3 nd k3] 38) := by
  have h := knew (w.alloc (.cells #[.slice za zn zc, .slice v1 m c] 57)) (.cells #[.slice p0 q0 k0, .int .i64 ty, .int .u32 tt, .slice p3 nd k3] 38)
  rw [World.size_alloc] at h
  rw [← hW0]; exact (Below.heap_alloc _ _ _ (by simp)).trans h
 have x2 : W0.heap[w.heap.size + 1 + 1]? = some (.cells #[.int .i64 0, .slice none 0 0, .slice none 0 0, .bool false, .slice none 0 0] 84) := by
  have h := knew ((w.alloc (.cells #[.slice za zn zc, .slice v1 m c] 57)).alloc (.cells #[.slice p0 q0 k0, .int .i64 ty, .int .u32 tt, .slice p3 nd k3] 38)) (.cells #[.int .i64 0, .slice none 0 0, .slice none 0 0, .bool false, .slice none 0 0] 84)
  rw [World.size_alloc, World.size_alloc] at h
  rw [← hW0]; exact h
 have X0 := qH0 x0; have X1 := qH0 x1; have X2 := qH0 x2; have HB0 := qH0 hB0; have HZ0 := qH0 hz0
 have hS0 : W0.cell? ⟨w.heap.size + 1, 3, none⟩ = some (.slice p3 nd k3) ∧ Below W0.heap.size W0 W0 := ⟨kcell x1 3 _ rfl, qL0⟩
 have hKB : ∀ W, Below W0.heap.size W0 W → W.cell? ⟨w.heap.size + 1, 3, none⟩ = some (.slice p3 nd k3) ∧ Below W0.heap.size W0 W := fun W hb => by
  have h := (hb.block _ (qaa X1.out)).trans X1.out
  exact ⟨kcell h 3 _ rfl, hb⟩
 have hdr : ∀ W, Below W0.heap.size W0 W → Below W0.heap.size W0 W.drew := fun W h => h.trans ⟨rfl, rfl, rfl, qN0, fun _ _ => rfl⟩
 have KR := qH0 (fun W (h : W.cell? ⟨w.heap.size + 1, 3, none⟩ = some (.slice p3 nd k3) ∧ Below W0.heap.size W0 W) => hKB _ (hdr W h.2))
 have KA := qH0 (fun W ob (h : W.cell? ⟨w.heap.size + 1, 3, none⟩ = some (.slice p3 nd k3) ∧ Below W0.heap.size W0 W) => hKB _ (h.2.alloc h.2.size ob))
 have KS := qH0 (fun W W' (h : W.cell? ⟨w.heap.size + 1, 3, none⟩ = some (.slice p3 nd k3) ∧ Below W0.heap.size W0 W) (hb : Below W.heap.size W W') => hKB W' (h.2.trans (hb.mono h.2.size)))
 have KP := qH0 (fun W u0 u1 u2 u3 u4 (h : W.cell? ⟨w.heap.size + 1, 3, none⟩ = some (.slice p3 nd k3) ∧ Below W0.heap.size W0 W) => hKB _ (qas h.2 (Nat.le_refl W0.heap.size) u0 u1 u2 u3 u4))
 unfold put5 at KP
 have HAd : Hid (Calls Tryz.prog 64 #[.slice ao qo co] (W0.alloc (.cells #[.int .i64 0, .slice none 0 0, .slice none 0 0, .bool false, .slice none 0 0] 84)).drew (RfA (W0.alloc (.cells #[.int .i64 0, .slice none 0 0, .slice none 0 0, .bool false, .slice none 0 0] 84)).drew W0.heap.size n)) := qH0 ((HCL.out _ (HB0.out.trans ((hdr _ ((Below.refl _ W0).alloc (qN0) _)).mono HB0.out.size))).mono (fun e w' h => rfA (by simp) (knewD W0 _) h))
 have HAd2 : Hid (Calls Tryz.prog 64 #[.slice ao qo co] (W0.drew.alloc (.cells #[.int .i64 0, .slice none 0 0, .slice none 0 0, .bool false, .slice none 0 0] 84)) (RfA (W0.drew.alloc (.cells #[.int .i64 0, .slice none 0 0, .slice none 0 0, .bool false, .slice none 0 0] 84)) W0.heap.size n)) := qH0 ((HCL.out _ (HB0.out.trans (((hdr _ (Below.refl _ W0)).alloc (qN0) _).mono HB0.out.size))).mono (fun e w' h => rfA (Nat.lt_of_lt_of_eq (Nat.lt_succ_self _) (World.size_alloc W0.drew _).symm) (knew W0.drew _) h))
 have HBd := qH0 (fun W (h : W.cell? ⟨w.heap.size + 1, 3, none⟩ = some (.slice p3 nd k3) ∧ Below W0.heap.size W0 W) => (HCL.out W (HB0.out.trans (h.2.mono HB0.out.size))).mono (fun e w' hh => rfB (n := W0.heap.size) h.2.size hh))
 clear x0 x1 x2 hB0 hz0 hKB hdr
 go_enter Tryz.func92, Tryz.ntmps92
 go_upto_region 1 with (fail)
 clear hW0
 go_cut [7] from 13 to 17 (fun v wx => ∃ (Bx : Nat) (sa : Option Addr) (sn sc : Nat), v = .pointer (some ⟨Bx, 0, none⟩) ∧ Hid (RfW W0 (.slice p3 nd k3) n Bx (.slice sa sn sc) wx))
 case first =>
  go_region_held3 (fun W => W.cell? ⟨w.heap.size + 1, 3, none⟩ = some (.slice p3 nd k3) ∧ Below W0.heap.size W0 W)
   (first | with_reducible assumption | (with_reducible exact KR.out _ (by with_reducible assumption)) | (with_reducible exact KA.out _ _ (by with_reducible assumption)) | (with_reducible exact KR.out _ (KA.out _ _ (by with_reducible assumption))) | (with_reducible exact KA.out _ _ (KR.out _ (by with_reducible assumption))) | (with_reducible exact KP.out _ _ _ _ _ _ (by with_reducible assumption)))
   (first
     | ((with_reducible refine (HAd.out).mono ?_); rintro e w7 ⟨sa, sn, sc, rfl, hs7, hb7, hx7⟩; have hS2 := KS.out _ _ (by with_reducible assumption) hb7; have fz0 := qab hx7 0; have fz1 := qab hx7 1; have fz2 := qab hx7 2; have fz3 := qab hx7 3; have fz4 := qab hx7 4; have cl0 := kcell hx7 0 _ rfl; have cl1 := kcell hx7 1 _ rfl; have cl2 := kcell hx7 2 _ rfl; have cl3 := kcell hx7 3 _ rfl; have cl4 := kcell hx7 4 _ rfl; have HSA := qH0 hs7; have HXA := qH0 hx7; clear hs7 hx7)
     | ((with_reducible refine (HAd2.out).mono ?_); rintro e w7 ⟨sa, sn, sc, rfl, hs7, hb7, hx7⟩; have hS2 := KS.out _ _ (by with_reducible assumption) hb7; have fz0 := qab hx7 0; have fz1 := qab hx7 1; have fz2 := qab hx7 2; have fz3 := qab hx7 3; have fz4 := qab hx7 4; have cl0 := kcell hx7 0 _ rfl; have cl1 := kcell hx7 1 _ rfl; have cl2 := kcell hx7 2 _ rfl; have cl3 := kcell hx7 3 _ rfl; have cl4 := kcell hx7 4 _ rfl; have HSA := qH0 hs7; have HXA := qH0 hx7; clear hs7 hx7)
     | ((with_reducible refine (HBd.out _ (by with_reducible assumption)).mono ?_); rintro e w7 ⟨sa, sn, sc, rfl, hs7, hb7⟩; have hS2 := KS.out _ _ (by with_reducible assumption) hb7; have HSB := qH0 hs7; clear hs7))
  all_goals
   obtain ⟨h71, h73⟩ := hS2
   first
   | (have hq := HSB
      clear hq
      go_wp2_with fail
      go_meet
      refine ⟨w7.heap.size, sa, sn, sc, rfl, qH0 ⟨h73.size, knew w7 _, fun W' hg => HSB.out W' (fun g q1 q2 => (hg g q1 (by rw [World.size_alloc]; omega) (by omega)).trans (Below.heap_alloc _ _ _ q2)), h73.alloc h73.size _⟩⟩)
   | (have hq := HSA
      clear hq
      go_wp2_with fail
      go_meet
      refine ⟨W0.heap.size, sa, sn, sc, rfl, qH0 ⟨qN0, qce HXA.out _ _ _ _ _, fun W' hg => HSA.out W' (fun g q1 q2 => (hg g (by omega) (Nat.lt_of_lt_of_le q2 (qar w7 W0.heap.size _ _ _ _ _).size) (by omega)).trans ((qar w7 W0.heap.size _ _ _ _ _).block g q2 (fun e => by injection e with e; omega))), qas h73 (qN0) _ _ _ _ _⟩⟩)
 case rest =>
 rename World => W1
 obtain ⟨Bx, sa, sn, sc, rfl, HNV⟩ := hcut
 clear hS0 KR KA KS KP HAd HAd2 HBd HCL
 obtain ⟨hbx, hx1, hst1, hb01⟩ := HNV.out
 have hb1 := qB0 HB0.out hb01
 have hA1 := (Below.refl W1.heap.size W1).alloc (qN0) (.map #[] 0)
 have hb02 := qB0 hb01 hA1
 have hb2 := qB0 hb1 hA1
 have x12 := (hb02.block _ (qaa X1.out)).trans X1.out
 have y0 := kcell x12 0 _ rfl; have y1 := kcell x12 1 _ rfl; have y2 := kcell x12 2 _ rfl; have y3 := kcell x12 3 _ rfl
 have htg := HTG.out _ hb2
 have HB02 := qH0 hb02
 have HBX := qH0 (qaa hx1)
 have HX := qH0 ((hA1.block _ (qaa hx1)).trans hx1)
 have HMP := qH0 (World.ownsMap_made W1 Tryz.prog 9 (plainElem (H := Unit) Tryz.prog 3))
 have HSZ := qH0 (show (W1.alloc (.map #[] 0)).heap.size = W1.heap.size + 1 by simp)
 have HST := qH0 (fun (W' : World) (hg : ∀ g, W0.heap.size ≤ g → g < W1.heap.size → g ≠ Bx → W'.heap[g]? = W1.heap[g]?) => hst1 W' hg)
 have HBXL := qH0 hbx
 clear HNV hbx hx1 hst1 hb01 hb1 hA1 hb02 hb2 x12 HTG
 go_wp2_with fail
 refine htg.mono ?_
 rintro e w2 ⟨vh, rfl, ho2, hb2⟩
 obtain ⟨ha, hc, rfl⟩ := ho2.shapeW
 have HX2 := qH0 ((hb2.block _ (by rw [HSZ.out]; have := HBX.out; omega)).trans HX.out)
 have HM2 := qH0 (HMP.out.kept ⟨hb2.os, hb2.tape, hb2.output, hb2.size, fun g q1 _ => hb2.block g q1⟩ (row := none) (by simp))
 have HB2 := qH0 (qB0 HB02.out hb2)
 have HSM := qH0 (show ∀ g, W0.heap.size ≤ g → g < W1.heap.size → g ≠ Bx → w2.heap[g]? = W1.heap[g]? from fun g q1 q2 q3 => (hb2.block g (by rw [HSZ.out]; omega)).trans (Below.heap_alloc _ _ _ q2))
 have HS2 := qH0 hb2.size
 obtain ⟨T0, hT0⟩ : ∃ T0, (W1.alloc (.map #[] 0)).heap.size = T0 := ⟨_, rfl⟩
 rw [hT0] at ho2 HSZ HS2
 have HO2 := qH0 ho2
 obtain ⟨hn, hhn⟩ : ∃ hn, hosts.length = hn := ⟨_, rfl⟩
 rw [hhn] at HTL HO2 ⊢
 have HHN := qH0 hhn
 clear htg ho2 hb2 HX HMP HB02 hT0 hhn y0 y1 y2 y3
 go_wp2
 clear hmm
 have hhl := HTL.out
 go_loopw [22] (fun vi wr => ∃ (k : Nat) (ga : Option Addr) (gn gc : Nat) (css : List (List Value)) (D : DataW Unit), vi = .int .i64 k ∧ k ≤ hn ∧ Hid (Below W0.heap.size W0 wr ∧ T0 ≤ wr.heap.size) ∧ Hid (wr.heap[Bx]? = some (.cells #[.int .i64 4, .slice p3 nd k3, .slice sa sn sc, .bool false, .slice ga gn gc] 84)) ∧ Hid (OwnNms wr T0 (.slice ha hn hc) hosts) ∧ Hid (OwnC 2 143 wr T0 (.slice ga gn gc) css) ∧ Hid (GlF wr T0 css (glsM rs (hosts.take k))) ∧ Hid (wr.ownsMap Tryz.prog 9 (plainElem Tryz.prog 3) W1.heap.size k D) ∧ Hid (CntD D ((hosts.take k).map textN)) ∧ Hid (∀ g, W0.heap.size ≤ g → g < W1.heap.size → g ≠ Bx → wr.heap[g]? = W1.heap[g]?)) (fun vi wr => hn - (intOf vi).toNat)
 case atStart => exact ⟨0, none, 0, 0, [], .map [], rfl, Nat.zero_le _, qH0 ⟨HB2.out, HS2.out⟩, HX2, HO2, qH0 (OwnK.nil _ _), qH0 ⟨rfl, fun j a => absurd a (by simp)⟩, HM2, qH0 qlV, HSM⟩
 case round =>
  obtain ⟨k, ga, gn, gc, css, D, rfl, hk, HB, HX, HO, HG, HGF, HM, HC, HSA⟩ := hrel
  clear HB2 HX2 HO2 HM2 HSM HS2
  by_cases hlt : k < hn
  ·have hltz : (k : Int) < (hn : Int) := by omega
   have hkl : k < hosts.length := by rw [HHN.out]; exact hlt
   obtain ⟨b, off, x, rfl, hcx, hox⟩ := HO.out.elemW hkl
   have hok := HTO.out _ (List.getElem_mem hkl)
   have htk : (hosts.take (k + 1)).map textN = (hosts.take k).map textN ++ [textN hosts[k]] := by rw [List.take_succ_eq_append_getElem hkl, List.map_append]; rfl
   have hgk := qk2 (rs := rs) hkl
   obtain ⟨h, hh⟩ : ∃ h, hosts[k] = h := ⟨_, rfl⟩
   rw [hh] at hox hok htk hgk
   obtain ⟨t, ht⟩ : ∃ t, textN h = t := ⟨_, rfl⟩
   rw [ht] at htk hgk
   have htl : t.length ≤ 4398047559681 := by rw [← ht]; exact qmz hok
   have htx := qmy (slW x) h t ht wr hox.nmAt hok
   obtain ⟨xa, xn, xc⟩ := x
   have hkey := ql3 t htl
   obtain ⟨ct, hct⟩ : ∃ ct, ((hosts.take k).map textN).count t = ct := ⟨_, rfl⟩
   have hcl : ct ≤ 1048576 := by rw [← hct]; have q := List.count_le_length (a := t) (l := (hosts.take k).map textN); rw [List.length_map, List.length_take] at q; omega
   have HHX := qH0 hox; have HOK := qH0 hok; have HTK := qH0 htk; have HGK := qH0 hgk; have HCT := qH0 hct
   clear hh ht htl hox hok htk hgk hct hkl
   generalize (⟨t.toArray⟩ : ByteArray) = s at *
   unfold slW at htx hcx
   simp only at htx hcx
   go_wp2_with fail
   refine htx.mono ?_
   rintro e w3 ⟨rfl, hb3⟩
   have HM3 := qH0 (HM.out.kept ⟨hb3.os, hb3.tape, hb3.output, hb3.size, fun g q1 _ => hb3.block g q1⟩ (row := none) (by simp))
   have HX3 := qH0 ((hb3.block _ (qaa HX.out)).trans HX.out)
   have HO3 := qH0 (HO.out.below hb3)
   have HG3 := qH0 (OwnK.below HG.out hb3)
   have HGF3 := qH0 (HGF.out.move (FarKeep.of_below hb3))
   have HHX3 := qH0 (HHX.out.below hb3)
   have HB3 : Hid (Below W0.heap.size W0 w3 ∧ T0 ≤ w3.heap.size) := qH0 ⟨HB.out.1.trans (hb3.mono HB.out.1.size), Nat.le_trans HB.out.2 hb3.size⟩
   have HSA3 : Hid (∀ g, W0.heap.size ≤ g → g < W1.heap.size → g ≠ Bx → w3.heap[g]? = W1.heap[g]?) := qH0 (fun g q1 q2 q3 => (hb3.block g (by have := HB.out.2; have := HSZ.out; omega)).trans (HSA.out g q1 q2 q3))
   have HAT : Hid (∀ c : Int, D.atKey (.string t) (.lit (.int .i64 0)) = .lit (.int .i64 c) → c = (ct : Int)) := qH0 (fun c e => by
    rw [HC.out.2 t, HCT.out] at e
    injection e with e; injection e with _ e; exact e.symm)
   clear htx hb3 hcx HM HX HO HG HGF HHX HB HSA
   have HCS : Hid (CntD (D.put (.string t) (.lit (.int .i64 ((ct : Int) + 1)))) ((hosts.take (k + 1)).map textN)) := qH0 (by
    have q := HC.out.snoc t
    rw [HCT.out] at q
    rw [HTK.out]
    simpa using q)
   have HAT2 : Hid (∀ c : Int, (D.put (.string t) (.lit (.int .i64 ((ct : Int) + 1)))).atKey (.string t) (.lit (.int .i64 0)) = .lit (.int .i64 c) → c = (ct : Int) + 1) := qH0 (fun c e => by
    rw [Maps.atKey_put_same (k := .string t) HC.out.1 trivial] at e
    injection e with e; injection e with _ e; exact e.symm)
   have HUP : Hid (∀ w4, w3.grownBy w4 (some W1.heap.size) → (Below W0.heap.size W0 w4 ∧ T0 ≤ w4.heap.size) ∧ w4.heap[Bx]? = some (.cells #[.int .i64 4, .slice p3 nd k3, .slice sa sn sc, .bool false, .slice ga gn gc] 84) ∧ FarKeep T0 w3 w4 ∧ (∀ g, W0.heap.size ≤ g → g < W1.heap.size → g ≠ Bx → w4.heap[g]? = W1.heap[g]?)) := qH0 (fun w4 hg4 => ⟨⟨HB3.out.1.grown hg4 HB3.out.1.size (fun j hj => by cases hj; have := HBX.out; have := HBXL.out; omega), Nat.le_trans HB3.out.2 hg4.size⟩, (hg4.block Bx (qaa HX3.out) (fun e => by injection e with e; have := HBX.out; omega)).trans HX3.out, fun g q1 q2 => hg4.block g q2 (fun e => by injection e with e; have := HSZ.out; omega), fun g q1 q2 q3 => (hg4.block g (by have := HB3.out.2; have := HSZ.out; omega) (fun e => by injection e with e; omega)).trans (HSA3.out g q1 q2 q3)⟩)
   have HCT0 : Hid (t ∈ (hosts.take k).map textN ↔ 0 < ct) := qH0 (by rw [← HCT.out]; exact qkq)
   clear HC HCT HTK
   by_cases hpos : 0 < ct
   ·have hgt : (1 : Int) < (ct : Int) + 1 := by omega
    have HGK : Hid (glsM rs (hosts.take (k + 1)) = glsM rs (hosts.take k)) := qH0 (by rw [HGK.out, if_pos (.inl (HCT0.out.2 hpos)), List.append_nil])
    go_wp2_with (first
     | (at_lookup; refine wpList_lookup_own_int _ rfl _ _ 190 rfl 9 3 .i64 keyStr Tryz.underlying190 Tryz.underlying3 (qeA _) W1.heap.size k D rfl HM3.out _ _ rfl hkey ?_; intro c hat hwc; obtain rfl := HAT.out c hat; clear hat hwc)
     | (at_mapUpdate; refine wpList_mapUpdate_own _ rfl _ _ _ 190 rfl 9 3 keyStr Tryz.underlying190 _ W1.heap.size k D rfl HM3.out (by unfold maxLen; omega) _ _ _ rfl rfl hkey _ [] (plainElem_int Tryz.underlying3 (WalkArith.wf_i64 (by omega))) ?_; intro w4 hown4 hg4; have HM4 := qH0 hown4; have HU4 := qH0 (HUP.out w4 hg4); clear hown4 hg4)
     | (at_lookup; refine wpList_lookup_own_int _ rfl _ _ 190 rfl 9 3 .i64 keyStr Tryz.underlying190 Tryz.underlying3 (qeA _) W1.heap.size (k + 1) _ rfl HM4.out _ _ rfl hkey ?_; intro c hat hwc; obtain rfl := HAT2.out c hat; clear hat hwc)
     | fail)
    obtain ⟨u1, u2, u3, u4⟩ := HU4.out
    have R3 := qH0 (HO3.out.move u3)
    have R4 := qH0 (OwnK.move HG3.out u3)
    have R5 : Hid (GlF _ T0 css (glsM rs (hosts.take (k + 1)))) := qH0 (by rw [HGK.out]; exact HGF3.out.move u3)
    have U1 := qH0 u1; have U2 := qH0 u2; have U4 := qH0 u4
    clear u1 u2 u3 u4 HO3 HG3 HGF3 HX3 HM3 HB3 HSA3 HUP HU4 HHX3
    go_roundw
    case measure => simp [intOf]; omega
    case rel => exact ⟨k + 1, ga, gn, gc, css, _, by go_num, by omega, U1, U2, R3, R4, R5, HM4, HCS, U4⟩
   ·obtain rfl : ct = 0 := by omega
    have HGL4 := qH0 (fun (vh : Value) (W : World) (hb : Below w.heap.size w W) (h1 : NmAt W vh h) => HGL.out vh h W hb h1 HOK.out)
    clear hpos HGL
    go_wp2_with (first
     | (at_lookup; refine wpList_lookup_own_int _ rfl _ _ 190 rfl 9 3 .i64 keyStr Tryz.underlying190 Tryz.underlying3 (qeA _) W1.heap.size k D rfl HM3.out _ _ rfl hkey ?_; intro c hat hwc; obtain rfl := HAT.out c hat; clear hat hwc)
     | (at_mapUpdate; refine wpList_mapUpdate_own _ rfl _ _ _ 190 rfl 9 3 keyStr Tryz.underlying190 _ W1.heap.size k D rfl HM3.out (by unfold maxLen; omega) _ _ _ rfl rfl hkey _ [] (plainElem_int Tryz.underlying3 (WalkArith.wf_i64 (by omega))) ?_; intro w4 hown4 hg4; have HM4 := qH0 hown4; have HU4 := qH0 (HUP.out w4 hg4); have x04 := (HU4.out.1.1.block _ (qaa X0.out)).trans X0.out; have y0 := kcell x04 0 _ rfl; have y1 := kcell x04 1 _ rfl; clear hown4 hg4 x04)
     | (at_lookup; refine wpList_lookup_own_int _ rfl _ _ 190 rfl 9 3 .i64 keyStr Tryz.underlying190 Tryz.underlying3 (qeA _) W1.heap.size (k + 1) _ rfl HM4.out _ _ rfl hkey ?_; intro c hat hwc; obtain rfl := HAT2.out c hat; clear hat hwc)
     | fail)
    obtain ⟨u1, u2, u3, u4⟩ := HU4.out
    have HO4 := qH0 (HO3.out.move u3)
    have HG4 := qH0 (OwnK.move HG3.out u3)
    have HGF4 := qH0 (HGF3.out.move u3)
    have HX4 := qH0 (HHX3.out.move u3)
    have hgl := HGL4.out (.slice xa xn xc) w4 (HB0.out.trans (u1.1.mono HB0.out.size)) HX4.out.nmAt
    have U1 := qH0 u1; have U2 := qH0 u2; have U4 := qH0 u4
    clear u1 u2 u3 u4 HO3 HG3 HGF3 HX3 HM3 HB3 HSA3 HUP HU4 HHX3 HGL4 HAT HAT2
    go_wp2_with fail
    refine hgl.mono ?_
    rintro e w5 ⟨vd, rfl, hd5, hb5⟩
    obtain ⟨da, dc, rfl⟩ : ∃ a c, vd = .slice a (glueM rs h).length c := by
     obtain ⟨ds, q1, q2, _⟩ := hd5
     obtain ⟨a, c, e⟩ := OwnK.shape q1
     exact ⟨a, c, by rw [e, q2]⟩
    obtain ⟨gl, hgl2⟩ : ∃ gl, glueM rs h = gl := ⟨_, rfl⟩
    rw [hgl2] at hd5 HGK ⊢
    obtain ⟨dn, hdn⟩ : ∃ dn, gl.length = dn := ⟨_, rfl⟩
    rw [hdn]
    have HM5 := qH0 (HM4.out.kept ⟨hb5.os, hb5.tape, hb5.output, hb5.size, fun g q1 _ => hb5.block g q1⟩ (row := none) (by simp))
    have HX5 := qH0 ((hb5.block _ (qaa U2.out)).trans U2.out)
    have HO5 := qH0 (HO4.out.below hb5)
    have HG5 := qH0 (OwnK.below HG4.out hb5)
    have HGF5 := qH0 (HGF4.out.move (FarKeep.of_below hb5))
    have HH5 := qH0 (HX4.out.below hb5)
    have HD5 : Hid (OwnDts w5 T0 (.slice da dn dc) gl) := qH0 (by rw [← hdn]; exact hd5.weaken U1.out.2)
    have HB5 : Hid (Below W0.heap.size W0 w5 ∧ T0 ≤ w5.heap.size) := qH0 ⟨U1.out.1.trans (hb5.mono U1.out.1.size), Nat.le_trans U1.out.2 hb5.size⟩
    have HS5 : Hid (∀ g, W0.heap.size ≤ g → g < W1.heap.size → g ≠ Bx → w5.heap[g]? = W1.heap[g]?) := qH0 (fun g q1 q2 q3 => (hb5.block g (by have := U1.out.2; have := HSZ.out; omega)).trans (U4.out g q1 q2 q3))
    have HDN := qH0 hdn
    have HNT : Hid (¬ t ∈ (hosts.take k).map textN) := qH0 (fun e => by have := HCT0.out.1 e; omega)
    clear hgl hgl2 hd5 hb5 HM4 U1 U2 HO4 HG4 HGF4 HX4 U4 hdn HCT0 y0 y1
    by_cases hd0 : dn = 0
    ·have HGK : Hid (glsM rs (hosts.take (k + 1)) = glsM rs (hosts.take k)) := qH0 (by rw [HGK.out, if_pos (.inr (List.eq_nil_of_length_eq_zero (by rw [HDN.out]; exact hd0))), List.append_nil])
     have R5 : Hid (GlF w5 T0 css (glsM rs (hosts.take (k + 1)))) := qH0 (by rw [HGK.out]; exact HGF5.out)
     subst hd0
     go_wp2
     go_roundw
     case measure => simp [intOf]; omega
     case rel => exact ⟨k + 1, ga, gn, gc, css, _, by go_num, by omega, HB5, HX5, HO5, HG5, R5, HM5, HCS, HS5⟩
    ·have hdz : (0 : Int) < (dn : Int) := by omega
     have HGK : Hid (glsM rs (hosts.take (k + 1)) = glsM rs (hosts.take k) ++ [(h, gl)]) := qH0 (by rw [HGK.out, if_neg (by rintro (e | e); exact HNT.out e; rw [e] at HDN; exact hd0 HDN.out.symm)])
     have HLN := qH0 (show css.length ≤ 1048576 by have q1 := HGF5.out.1; have q2 := qlE rs (hosts.take k); rw [List.length_take] at q2; omega)
     have y4 := kcell HX5.out 4 _ rfl
     go_wp2_with (at_builtin; refine qbn w5 rfl (.tmp 43) (.tmp 47) qll (by decide) rfl T0 (.slice ga gn gc) css rfl HG5.out [.slice xa xn xc, .slice da dn dc] rfl (by intro u hu; simp only [List.mem_cons, List.not_mem_nil, or_false] at hu; rcases hu with rfl | rfl <;> rfl) 1 (by rfl) HB5.out.2 (by have := HLN.out; unfold maxLen; omega) (by have := HLN.out; omega) ?_; intro v6 w6 hown6 hg6; have x6 := (hg6.block Bx (qaa HX5.out) (fun e => by have := OwnK.base_le HG5.out Bx e.symm; have := HBX.out; have := HSZ.out; omega)).trans HX5.out; have y6 := kcell x6 4 _ rfl; have f6 := qab x6 4; obtain ⟨a9, m9, c9, e9⟩ : ∃ a m c, v6 = .slice a m c := (by obtain ⟨a, c, e⟩ := OwnK.shape hown6; exact ⟨a, _, c, e⟩); subst e9; have HO6 := qH0 hown6; have HG6 := qH0 hg6; have HX6 := qH0 x6; clear hown6 hg6 x6)
     have R3 := HO5.out.keptC HG5.out HG6.out (by decide) (by decide)
     have R5 : GlF w6 T0 (css ++ [[.slice xa xn xc, .slice da dn dc]]) (glsM rs (hosts.take (k + 1))) := by
      rw [HGK.out]
      exact (HGF5.out.keptC HG5.out HG6.out).snoc (x0 := (xa, xn, xc)) (x1 := (da, dn, dc)) (HH5.out.kept_c HG5.out (by decide) HG6.out) (HD5.out.keptC HG5.out HG6.out (by decide) (by decide) (by decide) (by decide) (by decide))
     have hgb := qah w6 Bx 4 (.slice a9 m9 c9)
     have hbt : Bx < T0 := by have := HBX.out; have := HSZ.out; omega
     have hfk : FarKeep T0 w6 (w6.setCell ⟨Bx, 4, none⟩ (.slice a9 m9 c9)) := FarKeep.set w6 Bx 4 _ hbt
     have hob : ∀ g, (Value.slice ga gn gc).ownBlock = some g → T0 ≤ g := fun g e => OwnK.base_le HG5.out g e
     have hb6 : Below W0.heap.size W0 w6 := HB5.out.1.grown HG6.out HB5.out.1.size (fun r e => by have := hob r e; have := HSZ.out; have := HBX.out; have := HBXL.out; omega)
     have hm6 := HM5.out.kept HG6.out (fun e => by have := hob _ e.symm; have := HSZ.out; omega)
     have Q1 : Hid (Below W0.heap.size W0 (w6.setCell ⟨Bx, 4, none⟩ (.slice a9 m9 c9)) ∧ T0 ≤ (w6.setCell ⟨Bx, 4, none⟩ (.slice a9 m9 c9)).heap.size) := qH0 ⟨hb6.setCell (p := ⟨Bx, 4, none⟩) HBXL.out _, Nat.le_trans (Nat.le_trans HB5.out.2 HG6.out.size) hgb.size⟩
     have Q2 : Hid ((w6.setCell ⟨Bx, 4, none⟩ (.slice a9 m9 c9)).heap[Bx]? = some (.cells #[.int .i64 4, .slice p3 nd k3, .slice sa sn sc, .bool false, .slice a9 m9 c9] 84)) := qH0 (kset HX6.out 4 _)
     have Q3 := qH0 (R3.move hfk)
     have Q4 := qH0 (OwnK.move HO6.out hfk)
     have Q5 := qH0 (R5.move hfk)
     have Q6 := qH0 (hm6.kept hgb (fun e => by injection e with e; have := HBX.out; omega))
     have Q7 : Hid (∀ g, W0.heap.size ≤ g → g < W1.heap.size → g ≠ Bx → (w6.setCell ⟨Bx, 4, none⟩ (.slice a9 m9 c9)).heap[g]? = W1.heap[g]?) := qH0 (fun g q1 q2 q3 => (hgb.block g (by have := HB5.out.2; have := HSZ.out; have := HG6.out.size; omega) (fun e => by injection e with e; exact q3 e)).trans ((HG6.out.block g (by have := HB5.out.2; have := HSZ.out; omega) (fun e => by have := hob g e.symm; have := HSZ.out; omega)).trans (HS5.out g q1 q2 q3)))
     clear R3 R5 hgb hbt hfk hob hb6 hm6 y4 y6 f6
     go_roundw
     case measure => simp [intOf]; omega
     case rel => exact ⟨k + 1, a9, m9, c9, _, _, by go_num, by omega, Q1, Q2, Q3, Q4, Q5, Q6, HCS, Q7⟩
  ·obtain rfl : k = hn := by omega
   have HGF2 : Hid (GlF wr T0 css (glsM rs hosts)) := qH0 (by
    have q := HGF.out
    rw [List.take_of_length_le (by rw [HHN.out]; exact qN0)] at q
    exact q)
   have x2 := (HB.out.1.block _ (qaa X2.out)).trans X2.out
   have HX2 := qH0 x2
   have q0 := kcell HX.out 0 _ rfl; have q1 := kcell HX.out 1 _ rfl; have q2 := kcell HX.out 2 _ rfl; have q3 := kcell HX.out 3 _ rfl; have q4 := kcell HX.out 4 _ rfl
   have z0 := kcell x2 0 _ rfl; have z1 := kcell x2 1 _ rfl; have z2 := kcell x2 2 _ rfl; have z3 := kcell x2 3 _ rfl; have z4 := kcell x2 4 _ rfl
   have u0 := qab x2 0; have u1 := qab x2 1; have u2 := qab x2 2; have u3 := qab x2 3; have u4 := qab x2 4
   clear x2 HGF HM HC HO
   go_wp2
   refine bodyPost_ret (lk_fin rfl _ HX2.out rfl rfl rfl rfl rfl rfl) rfl ?_
   rw [HRF.out]
   have hw2 : w.heap.size + 1 + 1 < W0.heap.size := qaa X2.out
   have hbw := HB0.out.trans (HB.out.1.mono HB0.out.size)
   have hbf := qas hbw (show w.heap.size ≤ w.heap.size + 1 + 1 by omega) (.int .i64 4) (.slice p3 nd k3) (.slice sa sn sc) (.bool false) (.slice ga gn gc)
   refine ⟨_, rfl, fun W' hk => ?_, hbf⟩
   have hf5 := qaR (n := W0.heap.size) wr hw2 (.int .i64 4) (.slice p3 nd k3) (.slice sa sn sc) (.bool false) (.slice ga gn gc)
   have hsz5 := (qar wr (w.heap.size + 1 + 1) (.int .i64 4) (.slice p3 nd k3) (.slice sa sn sc) (.bool false) (.slice ga gn gc)).size
   have hN0 : N ≤ W0.heap.size := by have := HNN.out; have := HZ0.out; omega
   have hfw : FarKeep W0.heap.size wr W' := hf5.trans hsz5 (hk.mono hN0)
   have hWT : W0.heap.size ≤ T0 := by have := HSZ.out; have := HBX.out; have := HBXL.out; omega
   refine ⟨(p3, nd, k3), (sa, sn, sc), (ga, gn, gc), rfl, HSD.out W' ((FarKeep.of_below hbf).trans hbf.size hk), HST.out W' (fun g q1 q2 q3 => (hfw g q1 (by have := HB.out.2; have := HSZ.out; omega)).trans (HSA.out g q1 q2 q3)), ?_⟩
   exact (HGF2.out.move (hfw.mono hWT)).glR (OwnK.move HG.out (hfw.mono hWT))
end Go.Proofs.YtckammgnmgkieaaGreat
namespace Go.Proofs.YtckammgnmgkieaaGreat
set_option maxRecDepth 100000
set_option maxHeartbeats 16000000
open Go.RowKit Go.Shelf
theorem qlF {q : Nm} {l : List Rc} {k : Nat} (h : k < l.length) : onM (l.take (k + 1)) q = onM (l.take k) q ++ if underN q l[k].owner = true then [l[k]] else [] := by
 unfold onM
 rw [List.take_succ_eq_append_getElem h, List.filter_append]
 congr 1
 cases e : underN q l[k].owner <;> simp [e]
theorem qeM (l : List Rc) (q : Nm) : (onM l q).length ≤ l.length := List.length_filter_le _ _
def AbPost (w : World) (l : List Rc) (e : Ending) (w' : World) : Prop := ∃ v csw, e = .returned v ∧ OwnC 7 103 w' w.heap.size v csw ∧ Rcs w csw l ∧ Below w.heap.size w w'
theorem qkh {w : World} {za v1 : Option Addr} {zn zc n c : Nat} {o q : Nm} {rs : List Rc} {vq : Value} (hz : ZonS w za zn zc v1 n c o rs) (hO : NmAt w vq q) (hko : NmOK q) :
 Calls Tryz.prog 90 #[.agg #[.slice za zn zc, .slice v1 n c], vq] w (AbPost w (onM rs q)) := by
 obtain ⟨-, -, ⟨css, hA, hR⟩, hOK, hl⟩ := hz
 obtain ⟨hln, hx⟩ : css.length = n ∧ n ≤ c := by
  obtain ⟨a', c', e, h1, _⟩ := id hA
  cases e; exact ⟨rfl, h1⟩
 have HN := qH0 (fun (k : Nat) (u : Value) (W : World) (h1 : k < rs.length) (hu : NmAt W u rs[k].owner) (hb : Below w.heap.size w W) => qd6 vq u q rs[k].owner _ rfl W (hO.below hb) hu hko (hOK _ (List.getElem_mem h1)).1)
 obtain ⟨ao, co, rfl, -⟩ := nmAt_sl.1 hO
 have HA := qH0 hA; have HR := qH0 hR; have HLN := qH0 hln
 have HDL := qH0 (show rs.length = n by rw [← hR.1]; exact hln)
 obtain ⟨qo, hqo⟩ : ∃ q', (List.map strV q).length = q' := ⟨_, rfl⟩
 rw [hqo] at HN ⊢
 have HB0 := qH0 ((Below.refl w.heap.size w).alloc (qN0) (.cells #[.slice za zn zc, .slice v1 n c] 57))
 clear hA hR hOK hln hO hko hqo
 go_enter Tryz.func90, Tryz.ntmps90
 go_wp2
 generalize w.alloc (.cells #[.slice za zn zc, .slice v1 n c] 57) = W0 at *
 go_loopw [5, 11] (fun v3 vi wr => ∃ (k : Nat) (ga : Option Addr) (gn gc : Nat) (csw : List (List Value)), v3 = .slice ga gn gc ∧ vi = .int .i64 k ∧ k ≤ n ∧ Hid (OwnC 7 103 wr w.heap.size (.slice ga gn gc) csw) ∧ Hid (Rcs w csw (onM (rs.take k) q)) ∧ Hid (Below w.heap.size w wr)) (fun _ vi _ => n - (intOf vi).toNat)
 case atStart => exact ⟨0, none, 0, 0, [], rfl, rfl, Nat.zero_le _, qH0 (OwnK.nil _ _), qH0 ⟨rfl, fun i a => absurd a (by simp)⟩, HB0⟩
 case round =>
  obtain ⟨k, ga, gn, gc, csw, rfl, rfl, hk, HO, HRw, HB⟩ := hrel
  by_cases hlt : k < n
  ·have hltz : (k : Int) < (n : Int) := by omega
   have hk1 : k < css.length := by have := HLN.out; omega
   have hk2 : k < rs.length := by have := HDL.out; omega
   have hwr := HB.out
   obtain ⟨b, off, rfl, hb, hel⟩ := HA.out.elem HR.out.ck (by omega)
   have h0 := HR.out.2 k hk1 hk2
   have htk := qlF (q := q) hk2
   have hnk := fun u W => HN.out k u W hk2
   obtain ⟨d, hd⟩ : ∃ d, rs[k]'hk2 = d := ⟨_, rfl⟩
   rw [hd] at h0 htk
   simp only [hd] at hnk
   have hsh := h0.shape
   obtain ⟨⟨p0, q0, k0⟩, ⟨p3, q3, k3⟩, ⟨p4, q4, k4⟩, ⟨p5, q5, k5⟩, ⟨p6, q6, k6⟩, e0⟩ := hsh
   simp only at e0
   obtain ⟨c0', c1, c2, c3, c4, c5, c6⟩ := hel k hk1 _ _ _ _ _ _ _ e0 wr hwr
   have hown0 : NmAt w (.slice p0 q0 k0) d.owner := by
    obtain ⟨_, _, _, _, _, e5, g1, _⟩ := h0
    rw [e0] at e5
    simp only [List.cons.injEq, and_true] at e5
    rw [e5.1]; exact g1
   rw [e0] at h0
   have HD0 := qH0 h0
   have HBB := qH0 (HB.out.alloc HB.out.size (.cells #[.slice p0 q0 k0, .int .u32 (d.ttl : Int), .int .i64 d.data.ty, .slice p3 q3 k3, .slice p4 q4 k4, .slice p5 q5 k5, .slice p6 q6 k6] 103))
   have hn := hnk _ _ (hown0.below HBB.out) HBB.out
   have HO1 := qH0 (OwnK.below HO.out ((Below.refl _ wr).alloc (qN0) (.cells #[.slice p0 q0 k0, .int .u32 (d.ttl : Int), .int .i64 d.data.ty, .slice p3 q3 k3, .slice p4 q4 k4, .slice p5 q5 k5, .slice p6 q6 k6] 103)))
   have X1 := qH0 (knew wr (.cells #[.slice p0 q0 k0, .int .u32 (d.ttl : Int), .int .i64 d.data.ty, .slice p3 q3 k3, .slice p4 q4 k4, .slice p5 q5 k5, .slice p6 q6 k6] 103))
   have HTK := qH0 htk
   obtain ⟨res, hres⟩ : ∃ r, underN q d.owner = r := ⟨_, rfl⟩
   rw [hres] at hn HTK
   clear h0 htk hd e0 hown0 hk1 hk2 hel hnk HO HB hwr hres
   generalize (d.ttl : Int) = tr at *
   generalize d.data.ty = ty at *
   go_wp2_with fail
   refine hn.mono ?_
   rintro e w2 ⟨rfl, hbb2⟩
   have HB2 := qH0 (qB0 HBB.out hbb2)
   have hblk := (hbb2.block wr.heap.size (by simp)).trans X1.out
   have y0 := kcell hblk 0 _ rfl; have y1 := kcell hblk 1 _ rfl; have y2 := kcell hblk 2 _ rfl; have y3 := kcell hblk 3 _ rfl; have y4 := kcell hblk 4 _ rfl; have y5 := kcell hblk 5 _ rfl; have y6 := kcell hblk 6 _ rfl
   have HO2 := qH0 (OwnK.below HO1.out hbb2)
   have hz2 := HB2.out.size
   have HTL := qH0 (show csw.length ≤ 1048576 by have := HRw.out.1; have h2 := qeM (rs.take k) q; rw [List.length_take] at h2; omega)
   clear hbb2 hblk hn HBB HO1 X1 c0' c1 c2 c3 c4 c5 c6
   cases res with
   | true =>
    have HT : Hid (onM (rs.take (k + 1)) q = onM (rs.take k) q ++ [d]) := qH0 (by rw [HTK.out]; simp)
    have HRw2 : Hid (Rcs w (csw ++ [[.slice p0 q0 k0, .int .u32 tr, .int .i64 ty, .slice p3 q3 k3, .slice p4 q4 k4, .slice p5 q5 k5, .slice p6 q6 k6]]) (onM (rs.take (k + 1)) q)) := qH0 (by rw [HT.out]; exact HRw.out.snoc HD0.out)
    clear HTK HT HRw HD0
    go_wp2_with (at_builtin; refine qbn w2 rfl (.tmp 19) (.tmp 21) qdA (by decide) rfl w.heap.size (.slice ga gn gc) csw rfl HO2.out [.slice p0 q0 k0, .int .u32 tr, .int .i64 ty, .slice p3 q3 k3, .slice p4 q4 k4, .slice p5 q5 k5, .slice p6 q6 k6] rfl (by intro u hu; simp only [List.mem_cons, List.not_mem_nil, or_false] at hu; rcases hu with rfl | rfl | rfl | rfl | rfl | rfl | rfl <;> rfl) 1 (by rfl) hz2 (by have := HTL.out; unfold maxLen; omega) (by have := HTL.out; omega) ?_; intro v3 w3 hown3 hg3)
    have HB3 := qH0 (HB2.out.grown hg3 hz2 (OwnK.base_le HO2.out))
    obtain ⟨a9, c9, e9⟩ := OwnK.shape hown3
    subst e9
    have HO3 := qH0 hown3
    generalize List.length (csw ++ _) = m9 at *
    clear hg3 hown3
    go_roundw
    case measure => simp [intOf]; omega
    case rel => exact ⟨k + 1, a9, m9, c9, _, rfl, by go_num, by omega, HO3, HRw2, HB3⟩
   | false =>
    have HTK2 : Hid (onM (rs.take (k + 1)) q = onM (rs.take k) q) := qH0 (by rw [HTK.out]; simp)
    have HRw2 : Hid (Rcs w csw (onM (rs.take (k + 1)) q)) := qH0 (by rw [HTK2.out]; exact HRw.out)
    clear HTK HTK2 HRw
    go_wp2
    go_roundw
    case measure => simp [intOf]; omega
    case rel => exact ⟨k + 1, ga, gn, gc, csw, rfl, by go_num, by omega, HO2, HRw2, HB2⟩
  ·obtain rfl : k = n := by omega
   have h := HRw.out
   rw [List.take_of_length_le (by have := HDL.out; omega)] at h
   have HH := qH0 h
   clear h HRw
   go_wp2
   go_ret
   exact ⟨_, csw, rfl, HO.out, HH.out, HB.out⟩
theorem qeQ (N : Nat) (vq vn : Value) (q n : Nm) (cs : List Value) (d : St) (w : World) (hQ : NmAt w vq q) (hO : NmAt w vn n) (hkq : NmOK q) (hkn : NmOK n) (hS : ∀ W', FarKeep N w W' → SetR W' cs d) (hN : N ≤ w.heap.size) (hp : pointD d = true) (hkt : NmOK (firstN d)) (hall : NmOK (q.take (q.length - n.length) ++ firstN d)) :
 Calls Tryz.prog 94 #[vq, vn, .agg cs.toArray] w (LkPost N w (qaK q n d)) := by
 have hs0 := hS w (FarKeep.refl _ _)
 obtain ⟨⟨p0, q0, k0⟩, ⟨p3, q3, k3⟩, rfl⟩ := hs0.shape
 obtain ⟨b, off, gn, go, m, cn, v0, rfl, -, hn0, hn1, hm0, hnm, hcl⟩ := qgV hs0 hp
 change d.data.length ≤ k3 at hn1
 have HSW := qH0 (fun (W : World) (hb : Below w.heap.size w W) => qlq vq vn v0 q n (firstN d) W (hQ.below hb).1 (hO.below hb).1 (hnm.below hb).1 (hQ.below hb).2 (hnm.below hb).2 hkq hkn hkt hall)
 have HR := qH0 (show qaK q n d = if (swapN q n (firstN d)).2 = 0 then ⟨5, d.data.take 1, (swapN q n (firstN d)).1, false, []⟩ else ⟨6, [], [], false, []⟩ from rfl)
 generalize qaK q n d = res at *
 obtain ⟨aq, cq, rfl, -⟩ := nmAt_sl.1 hQ
 obtain ⟨ao, co, rfl, -⟩ := nmAt_sl.1 hO
 generalize (List.map strV q).length = lq at *
 generalize (List.map strV n).length = ln at *
 unfold qcc at HSW
 generalize swapN q n (firstN d) = sw at *
 obtain ⟨tn, er⟩ := sw
 have HS := qH0 hS; have HCL := qH0 hcl; have HDL := qH0 hn0; have HN := qH0 hN
 obtain ⟨nd, hnd⟩ : ∃ nd, d.data.length = nd := ⟨_, rfl⟩
 rw [hnd] at hn0 hn1 HS hs0 ⊢
 simp only at HR HSW
 clear hQ hO hkq hkn hS hp hkt hall hs0 hnm hcl hN hnd
 generalize (d.ttl : Int) = tt at *
 generalize d.ty = ty at *
 have hn0z : (0 : Int) < (nd : Int) := by omega
 have hm0z : (0 : Int) < (m : Int) := by omega
 have hn1z : (1 : Int) ≤ (nd : Int) := by omega
 have hn2z : (1 : Int) ≤ (k3 : Int) := by omega
 obtain ⟨W0, hW0⟩ : ∃ W0, (w.alloc (.cells #[.slice p0 q0 k0, .int .i64 ty, .int .u32 tt, .slice (some ⟨b, off, none⟩) nd k3] 38)).alloc (.cells #[.int .i64 0, .slice none 0 0, .slice none 0 0, .bool false, .slice none 0 0] 84) = W0 := ⟨_, rfl⟩
 have HB0 : Hid (Below w.heap.size w W0) := qH0 (by rw [← hW0]; exact (((Below.refl w.heap.size w).alloc (qN0) _).alloc (by simp) _))
 have HZ0 : Hid (W0.heap.size = w.heap.size + 2) := qH0 (by rw [← hW0]; simp)
 have x0 : W0.heap[w.heap.size]? = some (.cells #[.slice p0 q0 k0, .int .i64 ty, .int .u32 tt, .slice (some ⟨b, off, none⟩) nd k3] 38) := by
  rw [← hW0]; exact (Below.heap_alloc _ _ _ (by simp)).trans (knew w _)
 have x1 : W0.heap[w.heap.size + 1]? = some (.cells #[.int .i64 0, .slice none 0 0, .slice none 0 0, .bool false, .slice none 0 0] 84) := by
  have h := knew (w.alloc (.cells #[.slice p0 q0 k0, .int .i64 ty, .int .u32 tt, .slice (some ⟨b, off, none⟩) nd k3] 38)) (.cells #[.int .i64 0, .slice none 0 0, .slice none 0 0, .bool false, .slice none 0 0] 84)
  rw [World.size_alloc] at h
  rw [← hW0]; exact h
 have X0 := qH0 x0; have X1 := qH0 x1
 obtain ⟨k1, k2⟩ := HCL.out W0 HB0.out
 have y3 := kcell x0 3 _ rfl
 have hc := HSW.out W0 HB0.out
 clear x0 x1 HCL HSW
 go_enter Tryz.func94, Tryz.ntmps94
 go_wp2_with fail
 clear hW0
 refine hc.mono ?_
 rintro e w1 ⟨v1, rfl, ho1, hb1⟩
 obtain ⟨a1, c1, rfl⟩ := ho1.shape
 generalize List.length tn = n1 at *
 have x0 := (hb1.block w.heap.size (qaa X0.out)).trans X0.out
 have x1 := (hb1.block (w.heap.size + 1) (qaa X1.out)).trans X1.out
 have j3 := kcell x0 3 _ rfl
 have HX := qH0 x1
 have z0 := kcell x1 0 _ rfl; have z1 := kcell x1 1 _ rfl; have z2 := kcell x1 2 _ rfl; have z3 := kcell x1 3 _ rfl; have z4 := kcell x1 4 _ rfl
 have u0 := qab x1 0; have u1 := qab x1 1; have u2 := qab x1 2; have u3 := qab x1 3; have u4 := qab x1 4
 have HBW := qH0 (qB0 HB0.out hb1)
 have HO1 := qH0 ho1
 clear hc hb1 ho1 x0 x1 X0 X1 HB0 k1 k2 y3
 by_cases he : er = 0
 ·subst he
  have HR : Hid (res = ⟨5, d.data.take 1, tn, false, []⟩) := qH0 (by rw [HR.out]; rfl)
  go_wp2
  refine bodyPost_ret (lk_fin rfl _ HX.out rfl rfl rfl rfl rfl rfl) rfl ?_
  rw [HR.out]
  have hbf := qas HBW.out (show w.heap.size ≤ w.heap.size + 1 by omega) (.int .i64 5) (.slice (some ⟨b, off, none⟩) 1 1) (.slice a1 n1 c1) (.bool false) (.slice none 0 0)
  refine ⟨_, rfl, fun W' hk => ?_, hbf⟩
  have hsr := HS.out W' ((FarKeep.of_below hbf).trans hbf.size hk)
  have hnm := HO1.out.move (((qaR _ (by rw [HZ0.out]; omega) _ _ _ _ _).trans (qar _ _ _ _ _ _ _).size (hk.mono (by rw [HZ0.out]; have := HN.out; omega))))
  obtain ⟨dsx, q1, q2, -⟩ := hsr.dts (x0 := (p0, q0, k0)) (x3 := (some ⟨b, off, none⟩, nd, k3))
  have hdd : DtsR W' (.slice (some ⟨b, off, none⟩) nd k3) d.data := ⟨dsx, q1, q2⟩
  exact ⟨(some ⟨b, off, none⟩, 1, 1), (a1, n1, c1), (none, 0, 0), rfl, hdd.first HDL.out, hnm.nmAt, GlR.nil W'⟩
 ·have heb : (er == 0) = false := by simpa using he
  have HR : Hid (res = ⟨6, [], [], false, []⟩) := qH0 (by rw [HR.out, if_neg he])
  go_wp2
  refine bodyPost_ret (lk_fin rfl _ HX.out rfl rfl rfl rfl rfl rfl) rfl ?_
  rw [HR.out]
  exact ⟨_, rfl, fun W' hk => qbb W' 6 false, qas HBW.out (by simp) _ _ _ _ _⟩
end Go.Proofs.YtckammgnmgkieaaGreat
