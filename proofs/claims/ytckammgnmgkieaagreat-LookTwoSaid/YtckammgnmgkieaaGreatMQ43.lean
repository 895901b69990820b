/-
  look.at.
-/
import Derived.Test.YtckammgnmgkieaaGreatMQ25
import Derived.Test.YtckammgnmgkieaaGreatMQ31
import Derived.Test.YtckammgnmgkieaaGreatMQ30
import Derived.Test.YtckammgnmgkieaaGreatMQ13
import Derived.Test.YtckammgnmgkieaaGreatMQ08
import Derived.Deep.RegionHeld3
namespace Go.Proofs.YtckammgnmgkieaaGreat
set_option maxRecDepth 20000
open Go.RowKit Go.Shelf
set_option maxRecDepth 20000
set_option linter.unusedVariables false
set_option linter.unusedSimpArgs false
theorem set_first {W : World} {p0 p3 : Option Addr} {q0 k0 k3 n : Nat} {y t : Int} {s : St} (h : SetR W [.slice p0 q0 k0, .int .i64 y, .int .u32 t, .slice p3 n k3] s) (hp : pointD s = true) :
    ∃ b off g go m c v0, p3 = some ⟨b, off, none⟩ ∧ n = s.data.length ∧ 0 < n ∧ n ≤ k3 ∧ 0 < m ∧ NmAt W v0 (firstN s) ∧ ∀ W', Below W.heap.size W W' → W'.cell? ⟨b, off + 1, none⟩ = some (.slice (some ⟨g, go, none⟩) m c) ∧ W'.cell? ⟨g, go, none⟩ = some v0 := by
  obtain ⟨ds, hA, hR, hn⟩ := h.dts (x0 := (p0, q0, k0)) (x3 := (p3, n, k3))
  have hc : n ≤ k3 := by
    obtain ⟨a', c', e, h1, _⟩ := id hA
    injection e with _ _ e3
    rw [hR.1] at h1; have e4 : k3 = c' := e3; omega
  have h0 : 0 < s.data.length := by
    rcases Nat.eq_zero_or_pos s.data.length with h | h
    · rw [pointD_nil h] at hp; cases hp
    · exact h
  rw [pointD_first h0] at hp
  have hp := of_decide_eq_true hp
  have hd1 : 0 < ds.length := by rw [hR.1]; exact h0
  obtain ⟨b, off, rfl, hb, hel⟩ := hA.elem5 hR.ck hd1
  have hd := (hR.2 0 hd1 h0).2
  have hf : firstN s = s.data[0].names[0] := by
    unfold firstN
    rw [List.head?_eq_getElem?, List.getElem?_eq_getElem h0]
    simp only [Option.map_some, Option.getD_some]
    rw [List.headD_eq_head?_getD, List.head?_eq_getElem?, List.getElem?_eq_getElem hp]; rfl
  obtain ⟨an, cn, x4, x5, x6, vs, e0, s1, sl, hcn, s2⟩ := dt_shape2 hd
  have hv : 0 < vs.length := by omega
  obtain ⟨a', c', e1, h1, _, h2⟩ := id s1
  rcases h2 with h2 | ⟨g, go, e2, hg, h3⟩
  · subst h2; simp at hv
  · injection e1 with e1 _ _
    rw [e2] at e1
    refine ⟨b, off, g, go, s.data[0].names.length, cn, vs[0], rfl, hn, by omega, hc, hp, by rw [hf]; exact s2 0 hv hp, fun W' hB => ?_⟩
    have hcl := hel 0 hd1 _ _ _ _ _ e0 W' hB
    refine ⟨by have := hcl.2.1; rw [e1] at this; simpa using this, ?_⟩
    have := h3 0 hv
    rw [Nat.add_zero] at this
    exact Below.cell hB (p := ⟨g, go, none⟩) hg |>.trans this
theorem ofM_ok {l : List Rc} {o : Nm} {t : Int} {s : St} (hl : ∀ r ∈ l, RcOK r) (h : ofM l o t = some s) : NmOK s.owner ∧ ∀ d ∈ s.data, DatOK d := by
  unfold ofM at h
  exact sets_ok (fun r hr => hl r (List.mem_filter.1 hr).1) (List.mem_of_mem_head? h)
def at2M (r1 r2 : Option St) : Lk := match r1 with
  | some s => ⟨1, s.data, [], false, []⟩
  | none => match r2 with
    | some c => if pointD c then ⟨5, c.data.take 1, firstN c, false, []⟩ else ⟨2, [], [], false, []⟩
    | none => ⟨2, [], [], false, []⟩
theorem atM_eq (l : List Rc) (n : Nm) (t : Int) : atM l n t = at2M (ofM l n t) (ofM l n 5) := rfl
theorem firstN_eq {s : St} (h0 : 0 < s.data.length) (hp : 0 < s.data[0].names.length) : firstN s = s.data[0].names[0] := by
  unfold firstN
  rw [List.head?_eq_getElem?, List.getElem?_eq_getElem h0]
  simp only [Option.map_some, Option.getD_some]
  rw [List.headD_eq_head?_getD, List.head?_eq_getElem?, List.getElem?_eq_getElem hp]; rfl
theorem pointD_pos {s : St} (hp : pointD s = true) : ∃ h0 : 0 < s.data.length, 0 < s.data[0].names.length := by
  have h0 : 0 < s.data.length := by
    rcases Nat.eq_zero_or_pos s.data.length with h | h
    · rw [pointD_nil h] at hp; cases hp
    · exact h
  rw [pointD_first h0] at hp
  exact ⟨h0, of_decide_eq_true hp⟩
theorem firstN_mem {s : St} (hp : pointD s = true) : ∃ d ∈ s.data, firstN s ∈ d.names := by
  obtain ⟨h0, h1⟩ := pointD_pos hp
  exact ⟨_, List.getElem_mem h0, by rw [firstN_eq h0 h1]; exact List.getElem_mem h1⟩
set_option maxRecDepth 100000 in
set_option maxHeartbeats 8000000 in
theorem look_at (v vo : Value) (o : Nm) (t : Int) (l : List Rc) (w : World) (h : RowC w v l) (hO : NmAt w vo o) (hko : NmOK o) (hOK : ∀ r ∈ l, RcOK r) (hl : l.length ≤ 1048576) :
    Calls Tryz.prog 95 #[v, vo, .int .i64 t] w (LkPost w.heap.size w (atM l o t)) := by
  have HOF := Lib.hid (fun (t : Int) (W : World) (hb : Below w.heap.size w W) => row_OfF v vo o t l W (h.below hb) (hO.below hb) hko hOK hl)
  have HNL := Lib.hid (fun s (e : ofM l o 5 = some s) (hp : pointD s = true) => show (firstN s).length ≤ 8796093022000 from by
    obtain ⟨d, h1, h2⟩ := firstN_mem hp
    have := (((ofM_ok hOK e).2 d h1).2.2.1 _ h2).1
    omega)
  have HAT := Lib.hid (atM_eq l o t)
  generalize atM l o t = res at *
  obtain ⟨av, nv, cv, rfl⟩ : ∃ a n c, v = .slice a n c := by obtain ⟨css, ⟨a, c, e, _⟩, _⟩ := h; exact ⟨a, _, c, e⟩
  obtain ⟨ao, co, rfl, -⟩ := nmAt_sl.1 hO
  generalize (List.map strV o).length = qo at *
  unfold OfPostF at HOF
  have hB0 := (Below.refl w.heap.size w).alloc (Nat.le_refl _) (.cells #[.int .i64 0, .slice none 0 0, .slice none 0 0, .bool false, .slice none 0 0] 84)
  have X0 := Lib.hid (knew w (.cells #[.int .i64 0, .slice none 0 0, .slice none 0 0, .bool false, .slice none 0 0] 84))
  have hc := HOF.out t _ hB0
  have HB0 := Lib.hid hB0
  have HS0 := Lib.hid (show (w.alloc (.cells #[.int .i64 0, .slice none 0 0, .slice none 0 0, .bool false, .slice none 0 0] 84)).heap.size = w.heap.size + 1 by simp)
  clear h hO hko hOK hl hB0
  obtain ⟨r1, hr1⟩ : ∃ r, ofM l o t = r := ⟨_, rfl⟩
  rw [hr1] at hc HAT
  clear hr1
  go_enter Tryz.func95, Tryz.ntmps95
  cases r1 with
  | some s =>
    simp only [Option.isSome_some, Option.getD_some] at hc
    have HAT : Hid (res = ⟨1, s.data, [], false, []⟩) := Lib.hid HAT.out
    clear HOF HNL
    go_wp2_with fail
    refine hc.mono ?_
    rintro e w1 ⟨cs1, rfl, hf1, hb1⟩
    obtain ⟨⟨p0, q0, r0⟩, ⟨p3, q3, r3⟩, ds1, rfl, f1⟩ := id hf1
    have hA1 := (Below.refl w1.heap.size w1).alloc (Nat.le_refl _) (.cells #[.slice p0 q0 r0, .int .i64 s.ty, .int .u32 (s.ttl : Int), .slice p3 q3 r3] 38)
    have hb2 := hb1.trans (hA1.mono hb1.size)
    have x0 := (hb2.block w.heap.size (kblock_lt X0.out)).trans X0.out
    have HX := Lib.hid x0
    have z0 := kcell x0 0 _ rfl; have z1 := kcell x0 1 _ rfl; have z2 := kcell x0 2 _ rfl; have z3 := kcell x0 3 _ rfl; have z4 := kcell x0 4 _ rfl
    have u0 := kfrozen x0 0; have u1 := kfrozen x0 1; have u2 := kfrozen x0 2; have u3 := kfrozen x0 3; have u4 := kfrozen x0 4
    have HBW := Lib.hid (HB0.out.trans (hb2.mono HB0.out.size))
    have HF := Lib.hid (hf1.below hA1)
    have hx5 := knew w1 (.cells #[.slice p0 q0 r0, .int .i64 s.ty, .int .u32 (s.ttl : Int), .slice p3 q3 r3] 38)
    have y3 := kcell hx5 3 _ rfl
    clear hc hf1 f1 hb1 hA1 hb2 x0 HB0 X0 hx5
    generalize (s.ttl : Int) = tt at *
    generalize s.ty = ty at *
    go_wp2
    refine bodyPost_ret (lk_fin rfl _ HX.out rfl rfl rfl rfl rfl rfl) rfl ?_
    rw [HAT.out]
    refine ⟨_, rfl, fun W' hk => ?_, put5_below HBW.out (Nat.le_refl _) _ _ _ _ _⟩
    have hfs := HF.out.move (((put5_far _ (by rw [HS0.out]; omega) _ _ _ _ _).trans (put5_grown _ _ _ _ _ _ _).size (hk.mono (by rw [HS0.out]; omega))))
    exact ⟨(p3, q3, r3), (none, 0, 0), (none, 0, 0), rfl, hfs.dtsR (x0 := (p0, q0, r0)) (x3 := (p3, q3, r3)), (OwnG.nmAt (OwnG.nil W' 0) : NmAt W' (.slice none 0 0) []), GlR.nil W'⟩
  | none =>
    simp only [Option.isSome_none, Option.getD_none] at hc
    obtain ⟨r2, hr2⟩ : ∃ r, ofM l o 5 = r := ⟨_, rfl⟩
    rw [hr2] at HAT HNL
    have HR2 := Lib.hid hr2
    clear hr2
    go_wp2_with fail
    refine hc.mono ?_
    rintro e w1 ⟨cs1, rfl, hf1, hb1⟩
    obtain ⟨⟨p0, q0, r0⟩, ⟨p3, q3, r3⟩, ds1, rfl, f1⟩ := id hf1
    have hA1 := (Below.refl w1.heap.size w1).alloc (Nat.le_refl _) (.cells #[.slice p0 q0 r0, .int .i64 ((⟨[], 0, 0, []⟩ : St).ty), .int .u32 (((⟨[], 0, 0, []⟩ : St).ttl : Nat) : Int), .slice p3 q3 r3] 38)
    have hb2 := hb1.trans (hA1.mono hb1.size)
    have x0 := (hb2.block w.heap.size (kblock_lt X0.out)).trans X0.out
    have X1 := Lib.hid x0
    have HB1 := Lib.hid (HB0.out.trans (hb2.mono HB0.out.size))
    have HS1 := Lib.hid (show w.heap.size + 1 ≤ (w1.alloc (.cells #[.slice p0 q0 r0, .int .i64 ((⟨[], 0, 0, []⟩ : St).ty), .int .u32 (((⟨[], 0, 0, []⟩ : St).ttl : Nat) : Int), .slice p3 q3 r3] 38)).heap.size by have := HS0.out; have := hb2.size; omega)
    have hc2 := HOF.out 5 _ HB1.out
    rw [HR2.out] at hc2
    clear hc hf1 f1 hb1 hA1 hb2 x0 HB0 X0 HOF HR2 HS0
    generalize ((⟨[], 0, 0, []⟩ : St).ttl : Int) = tt at *
    generalize (⟨[], 0, 0, []⟩ : St).ty = ty at *
    cases r2 with
    | none =>
      simp only [Option.isSome_none, Option.getD_none] at hc2
      go_wp2_with fail
      refine hc2.mono ?_
      rintro e w2 ⟨cs2, rfl, hf2, hb2⟩
      obtain ⟨⟨g0, h0, i0⟩, ⟨g3, h3, i3⟩, ds2, rfl, f2⟩ := id hf2
      have hA2 := (Below.refl w2.heap.size w2).alloc (Nat.le_refl _) (.cells #[.slice g0 h0 i0, .int .i64 ((⟨[], 0, 0, []⟩ : St).ty), .int .u32 (((⟨[], 0, 0, []⟩ : St).ttl : Nat) : Int), .slice g3 h3 i3] 38)
      have hb3 := hb2.trans (hA2.mono hb2.size)
      have x0 := (hb3.block w.heap.size (kblock_lt X1.out)).trans X1.out
      have HX := Lib.hid x0
      have z0 := kcell x0 0 _ rfl; have z1 := kcell x0 1 _ rfl; have z2 := kcell x0 2 _ rfl; have z3 := kcell x0 3 _ rfl; have z4 := kcell x0 4 _ rfl
      have u0 := kfrozen x0 0; have u1 := kfrozen x0 1; have u2 := kfrozen x0 2; have u3 := kfrozen x0 3; have u4 := kfrozen x0 4
      have HBW := Lib.hid (HB1.out.trans (hb3.mono HB1.out.size))
      clear hc2 hf2 f2 hb2 hA2 hb3 x0 HB1 X1 HS1
      generalize ((⟨[], 0, 0, []⟩ : St).ttl : Int) = tt at *
      generalize (⟨[], 0, 0, []⟩ : St).ty = ty at *
      go_wp2
      refine bodyPost_ret (lk_fin rfl _ HX.out rfl rfl rfl rfl rfl rfl) rfl ?_
      rw [HAT.out]
      exact ⟨_, rfl, fun W' hk => lkAt_bare W' 2 false, put5_below HBW.out (Nat.le_refl _) _ _ _ _ _⟩
    | some s =>
      simp only [Option.isSome_some, Option.getD_some] at hc2
      have HAT : Hid (res = if pointD s then ⟨5, s.data.take 1, firstN s, false, []⟩ else ⟨2, [], [], false, []⟩) := Lib.hid HAT.out
      go_wp2_with fail
      refine hc2.mono ?_
      rintro e w2 ⟨cs2, rfl, hf2, hb2⟩
      obtain ⟨⟨g0, h0, i0⟩, ⟨g3, h3, i3⟩, ds2, rfl, f2⟩ := id hf2
      have hA2 := (Below.refl w2.heap.size w2).alloc (Nat.le_refl _) (.cells #[.slice g0 h0 i0, .int .i64 s.ty, .int .u32 (s.ttl : Int), .slice g3 h3 i3] 38)
      have hb3 := hb2.trans (hA2.mono hb2.size)
      have X2 := Lib.hid ((hb3.block w.heap.size (kblock_lt X1.out)).trans X1.out)
      have HB2 := Lib.hid (HB1.out.trans (hb3.mono HB1.out.size))
      have hf3 := hf2.below hA2
      have HF := Lib.hid hf3
      have X9 := Lib.hid (knew w2 (.cells #[.slice g0 h0 i0, .int .i64 s.ty, .int .u32 (s.ttl : Int), .slice g3 h3 i3] 38))
      have y0 := kcell X9.out 0 _ rfl; have y1 := kcell X9.out 1 _ rfl; have y2 := kcell X9.out 2 _ rfl; have y3 := kcell X9.out 3 _ rfl
      have hp := look_pointing _ s _ hf3.setR
      clear hc2 hf2 f2 hb2 hA2 hb3 HB1 X1 hf3
      generalize (s.ttl : Int) = tt at *
      generalize s.ty = ty at *
      generalize (w1.alloc (Obj.cells #[.slice p0 q0 r0, _, _, .slice p3 q3 r3] 38)).heap.size = base2 at *
      cases hpd : pointD s with
      | false =>
        rw [hpd] at hp HAT
        go_wp2_with fail
        refine hp.mono ?_
        rintro e w3 ⟨rfl, hb3⟩
        have x0 := (hb3.block w.heap.size (kblock_lt X2.out)).trans X2.out
        have HX := Lib.hid x0
        have z0 := kcell x0 0 _ rfl; have z1 := kcell x0 1 _ rfl; have z2 := kcell x0 2 _ rfl; have z3 := kcell x0 3 _ rfl; have z4 := kcell x0 4 _ rfl
        have u0 := kfrozen x0 0; have u1 := kfrozen x0 1; have u2 := kfrozen x0 2; have u3 := kfrozen x0 3; have u4 := kfrozen x0 4
        have HBW := Lib.hid (HB2.out.trans (hb3.mono HB2.out.size))
        clear hp hb3 x0 X2 HB2 X9 HF y0 y1 y2 y3 HNL hpd
        go_wp2
        refine bodyPost_ret (lk_fin rfl _ HX.out rfl rfl rfl rfl rfl rfl) rfl ?_
        rw [HAT.out]
        exact ⟨_, rfl, fun W' hk => lkAt_bare W' 2 false, put5_below HBW.out (Nat.le_refl _) _ _ _ _ _⟩
      | true =>
        rw [hpd] at hp HAT
        obtain ⟨b, off, gn, go, m, cn, v0, rfl, hn, hn0, hn1, hm0, hnm, hcl⟩ := set_first HF.out.setR hpd
        change h3 = s.data.length at hn
        change 0 < h3 at hn0
        change h3 ≤ i3 at hn1
        have hfl := HNL.out s rfl hpd
        have HFL := Lib.hid hfl
        have HCL := Lib.hid hcl; have HNM := Lib.hid hnm
        have hn0z : (0 : Int) < (h3 : Int) := by omega
        have hm0z : (0 : Int) < (m : Int) := by omega
        have hn1z : (1 : Int) ≤ (h3 : Int) := by omega
        have hn2z : (1 : Int) ≤ (i3 : Int) := by omega
        have HDL := Lib.hid (show 0 < s.data.length by omega)
        clear hn hcl hnm hfl hpd HNL
        go_wp2_with fail
        refine hp.mono ?_
        rintro e w3 ⟨rfl, hb3⟩
        obtain ⟨k1, k2⟩ := HCL.out w3 hb3
        have X3 := Lib.hid ((hb3.block w.heap.size (kblock_lt X2.out)).trans X2.out)
        have x9 := (hb3.block w2.heap.size (kblock_lt X9.out)).trans X9.out
        have j3 := kcell x9 3 _ rfl
        have HX9 := Lib.hid x9
        have HB3 := Lib.hid (HB2.out.trans (hb3.mono HB2.out.size))
        have hcl := clone_Name v0 (firstN s) w3 (HNM.out.below hb3).1 (HNM.out.below hb3).2 HFL.out
        have HF3 := Lib.hid (HF.out.below hb3)
        clear hp hb3 x9 X2 HB2 X9 HF HCL HNM HFL y0 y1 y2 y3
        go_wp2_with fail
        refine hcl.mono ?_
        rintro e w4 ⟨v4, rfl, ho4, hb4⟩
        obtain ⟨a4, c4, rfl⟩ := ho4.shape
        generalize List.length (firstN s) = n4 at *
        have x0 := (hb4.block w.heap.size (kblock_lt X3.out)).trans X3.out
        have x9 := (hb4.block w2.heap.size (kblock_lt HX9.out)).trans HX9.out
        have j3 := kcell x9 3 _ rfl
        have HX := Lib.hid x0
        have z0 := kcell x0 0 _ rfl; have z1 := kcell x0 1 _ rfl; have z2 := kcell x0 2 _ rfl; have z3 := kcell x0 3 _ rfl; have z4 := kcell x0 4 _ rfl
        have u0 := kfrozen x0 0; have u1 := kfrozen x0 1; have u2 := kfrozen x0 2; have u3 := kfrozen x0 3; have u4 := kfrozen x0 4
        have HBW := Lib.hid (HB3.out.trans (hb4.mono HB3.out.size))
        have HF4 := Lib.hid (HF3.out.below hb4)
        have HO4 := Lib.hid ho4
        have HS3 := Lib.hid HB3.out.size
        have HS4 := Lib.hid (kblock_lt X3.out)
        clear hcl hb4 ho4 x0 x9 X3 HX9 HB3 HF3 k1 k2
        go_wp2
        refine bodyPost_ret (lk_fin rfl _ HX.out rfl rfl rfl rfl rfl rfl) rfl ?_
        rw [HAT.out]
        refine ⟨_, rfl, fun W' hk => ?_, put5_below HBW.out (Nat.le_refl _) _ _ _ _ _⟩
        have hfs := HF4.out.move (((put5_far _ (by have := HS1.out; omega) _ _ _ _ _).trans (put5_grown _ _ _ _ _ _ _).size (hk.mono (by have := HS1.out; omega))))
        have hnm := HO4.out.move (((put5_far _ HS4.out _ _ _ _ _).trans (put5_grown _ _ _ _ _ _ _).size (hk.mono HS3.out)))
        exact ⟨(some ⟨b, off, none⟩, 1, 1), (a4, n4, c4), (none, 0, 0), rfl, (hfs.dtsR (x0 := (g0, h0, i0)) (x3 := (some ⟨b, off, none⟩, h3, i3))).first HDL.out, hnm.nmAt, GlR.nil W'⟩
end Go.Proofs.YtckammgnmgkieaaGreat

/-
  look.rename.
-/
namespace Go.Proofs.YtckammgnmgkieaaGreat
set_option maxRecDepth 20000
open Go.RowKit Go.Shelf
set_option maxRecDepth 20000
set_option linter.unusedVariables false
set_option linter.unusedSimpArgs false
set_option maxRecDepth 100000 in
set_option maxHeartbeats 8000000 in
theorem look_rename (N : Nat) (vq vn : Value) (q n : Nm) (cs : List Value) (d : St) (w : World) (hQ : NmAt w vq q) (hO : NmAt w vn n) (hkq : NmOK q) (hkn : NmOK n) (hS : ∀ W', FarKeep N w W' → SetR W' cs d) (hN : N ≤ w.heap.size) (hp : pointD d = true) (hkt : NmOK (firstN d)) (hall : NmOK (q.take (q.length - n.length) ++ firstN d)) :
    Calls Tryz.prog 94 #[vq, vn, .agg cs.toArray] w (LkPost N w (renameM q n d)) := by
  have hs0 := hS w (FarKeep.refl _ _)
  obtain ⟨⟨p0, q0, k0⟩, ⟨p3, q3, k3⟩, rfl⟩ := hs0.shape
  obtain ⟨b, off, gn, go, m, cn, v0, rfl, -, hn0, hn1, hm0, hnm, hcl⟩ := set_first hs0 hp
  change d.data.length ≤ k3 at hn1
  have HSW := Lib.hid (fun (W : World) (hb : Below w.heap.size w W) => name_Swap vq vn v0 q n (firstN d) W (hQ.below hb).1 (hO.below hb).1 (hnm.below hb).1 (hQ.below hb).2 (hnm.below hb).2 hkq hkn hkt hall)
  have HR := Lib.hid (show renameM q n d = if (swapN q n (firstN d)).2 = 0 then ⟨5, d.data.take 1, (swapN q n (firstN d)).1, false, []⟩ else ⟨6, [], [], false, []⟩ from rfl)
  generalize renameM q n d = res at *
  obtain ⟨aq, cq, rfl, -⟩ := nmAt_sl.1 hQ
  obtain ⟨ao, co, rfl, -⟩ := nmAt_sl.1 hO
  generalize (List.map strV q).length = lq at *
  generalize (List.map strV n).length = ln at *
  unfold SwapPost at HSW
  generalize swapN q n (firstN d) = sw at *
  obtain ⟨tn, er⟩ := sw
  have HS := Lib.hid hS; have HCL := Lib.hid hcl; have HDL := Lib.hid hn0; have HN := Lib.hid hN
  obtain ⟨nd, hnd⟩ : ∃ nd, d.data.length = nd := ⟨_, rfl⟩
  rw [hnd] at hn0 hn1 HS hs0 ⊢
  simp only at HR HSW
  clear hQ hO hkq hkn hS hp hkt hall hs0 hnm hcl hN hnd
  generalize (d.ttl : Int) = tt at *
  generalize d.ty = ty at *
  have hn0z : (0 : Int) < (nd : Int) := by omega
  have hm0z : (0 : Int) < (m : Int) := by omega
  have hn1z : (1 : Int) ≤ (nd : Int) := by omega
  have hn2z : (1 : Int) ≤ (k3 : Int) := by omega
  obtain ⟨W0, hW0⟩ : ∃ W0, (w.alloc (.cells #[.slice p0 q0 k0, .int .i64 ty, .int .u32 tt, .slice (some ⟨b, off, none⟩) nd k3] 38)).alloc (.cells #[.int .i64 0, .slice none 0 0, .slice none 0 0, .bool false, .slice none 0 0] 84) = W0 := ⟨_, rfl⟩
  have HB0 : Hid (Below w.heap.size w W0) := Lib.hid (by rw [← hW0]; exact (((Below.refl w.heap.size w).alloc (Nat.le_refl _) _).alloc (by simp) _))
  have HZ0 : Hid (W0.heap.size = w.heap.size + 2) := Lib.hid (by rw [← hW0]; simp)
  have x0 : W0.heap[w.heap.size]? = some (.cells #[.slice p0 q0 k0, .int .i64 ty, .int .u32 tt, .slice (some ⟨b, off, none⟩) nd k3] 38) := by
    rw [← hW0]; exact (Below.heap_alloc _ _ _ (by simp)).trans (knew w _)
  have x1 : W0.heap[w.heap.size + 1]? = some (.cells #[.int .i64 0, .slice none 0 0, .slice none 0 0, .bool false, .slice none 0 0] 84) := by
    have h := knew (w.alloc (.cells #[.slice p0 q0 k0, .int .i64 ty, .int .u32 tt, .slice (some ⟨b, off, none⟩) nd k3] 38)) (.cells #[.int .i64 0, .slice none 0 0, .slice none 0 0, .bool false, .slice none 0 0] 84)
    rw [World.size_alloc] at h
    rw [← hW0]; exact h
  have X0 := Lib.hid x0; have X1 := Lib.hid x1
  obtain ⟨k1, k2⟩ := HCL.out W0 HB0.out
  have y3 := kcell x0 3 _ rfl
  have hc := HSW.out W0 HB0.out
  clear x0 x1 HCL HSW
  go_enter Tryz.func94, Tryz.ntmps94
  go_wp2_with fail
  clear hW0
  refine hc.mono ?_
  rintro e w1 ⟨v1, rfl, ho1, hb1⟩
  obtain ⟨a1, c1, rfl⟩ := ho1.shape
  generalize List.length tn = n1 at *
  have x0 := (hb1.block w.heap.size (kblock_lt X0.out)).trans X0.out
  have x1 := (hb1.block (w.heap.size + 1) (kblock_lt X1.out)).trans X1.out
  have j3 := kcell x0 3 _ rfl
  have HX := Lib.hid x1
  have z0 := kcell x1 0 _ rfl; have z1 := kcell x1 1 _ rfl; have z2 := kcell x1 2 _ rfl; have z3 := kcell x1 3 _ rfl; have z4 := kcell x1 4 _ rfl
  have u0 := kfrozen x1 0; have u1 := kfrozen x1 1; have u2 := kfrozen x1 2; have u3 := kfrozen x1 3; have u4 := kfrozen x1 4
  have HBW := Lib.hid (HB0.out.trans (hb1.mono HB0.out.size))
  have HO1 := Lib.hid ho1
  clear hc hb1 ho1 x0 x1 X0 X1 HB0 k1 k2 y3
  by_cases he : er = 0
  · subst he
    have HR : Hid (res = ⟨5, d.data.take 1, tn, false, []⟩) := Lib.hid (by rw [HR.out]; rfl)
    go_wp2
    refine bodyPost_ret (lk_fin rfl _ HX.out rfl rfl rfl rfl rfl rfl) rfl ?_
    rw [HR.out]
    have hbf := put5_below HBW.out (show w.heap.size ≤ w.heap.size + 1 by omega) (.int .i64 5) (.slice (some ⟨b, off, none⟩) 1 1) (.slice a1 n1 c1) (.bool false) (.slice none 0 0)
    refine ⟨_, rfl, fun W' hk => ?_, hbf⟩
    have hsr := HS.out W' ((FarKeep.of_below hbf).trans hbf.size hk)
    have hnm := HO1.out.move (((put5_far _ (by rw [HZ0.out]; omega) _ _ _ _ _).trans (put5_grown _ _ _ _ _ _ _).size (hk.mono (by rw [HZ0.out]; have := HN.out; omega))))
    obtain ⟨dsx, q1, q2, -⟩ := hsr.dts (x0 := (p0, q0, k0)) (x3 := (some ⟨b, off, none⟩, nd, k3))
    have hdd : DtsR W' (.slice (some ⟨b, off, none⟩) nd k3) d.data := ⟨dsx, q1, q2⟩
    exact ⟨(some ⟨b, off, none⟩, 1, 1), (a1, n1, c1), (none, 0, 0), rfl, hdd.first HDL.out, hnm.nmAt, GlR.nil W'⟩
  · have heb : (er == 0) = false := by simpa using he
    have HR : Hid (res = ⟨6, [], [], false, []⟩) := Lib.hid (by rw [HR.out, if_neg he])
    go_wp2
    refine bodyPost_ret (lk_fin rfl _ HX.out rfl rfl rfl rfl rfl rfl) rfl ?_
    rw [HR.out]
    exact ⟨_, rfl, fun W' hk => lkAt_bare W' 6 false, put5_below HBW.out (by simp) _ _ _ _ _⟩
end Go.Proofs.YtckammgnmgkieaaGreat

/-
  The document's zone (toponymref17): has, Exists.
-/
namespace Go.Proofs.YtckammgnmgkieaaGreat
set_option maxRecDepth 20000
open Go.RowKit Go.Shelf
set_option maxRecDepth 20000
set_option linter.unusedVariables false
set_option linter.unusedSimpArgs false
theorem ancN_okR {n : Nm} (h : NmOK n) (s : Nat) : NmOK (ancN n s) := ⟨by unfold ancN; rw [List.length_drop]; have := h.1; omega, fun x hx => h.2 x (List.mem_of_mem_drop hx)⟩
end Go.Proofs.YtckammgnmgkieaaGreat

