/-
  Records in memory; rec.Compare, rec.Same.
-/
import Derived.Test.YtfcdajldpnomfaaGreatDoorMQ33
import Derived.Test.YtfcdajldpnomfaaGreatDoorMQ19
import Derived.Test.YtfcdajldpnomfaaGreatDoorMQ25
import Derived.Test.YtfcdajldpnomfaaGreatDoorMQ43
import Derived.Test.YtfcdajldpnomfaaGreatDoorMQ18
import Derived.Test.YtfcdajldpnomfaaGreatDoorMQ32
import Derived.Deep.RegionHeld3
import Derived.Deep.AppendLies
import Derived.Outline
import Derived.IntWalk
namespace Go.Proofs.YtfcdajldpnomfaaGreatDoor
set_option maxRecDepth 20000
open Go.RowKit Go.Shelf
set_option linter.unusedVariables false
set_option linter.unusedSimpArgs false

/-- These cells read as that record. -/
def RcAt (W : World) (cs : List Value) (r : Rc) : Prop :=
  ∃ vo vn vu vt vr, cs = [vo, .int .u32 (r.ttl : Int), .int .i64 r.data.ty, vn, vu, vt, vr] ∧ NmAt W vo r.owner ∧ DatAt W (.agg #[.int .i64 r.data.ty, vn, vu, vt, vr]) r.data
def RcOK (r : Rc) : Prop := NmOK r.owner ∧ r.ttl < 2 ^ 32 ∧ DatOK r.data
theorem RcAt.below {W W' : World} {cs : List Value} {r : Rc} (h : RcAt W cs r) (hb : Below W.heap.size W W') : RcAt W' cs r := by
  obtain ⟨vo, vn, vu, vt, vr, e, h1, h2⟩ := h
  exact ⟨vo, vn, vu, vt, vr, e, h1.below hb, h2.below hb⟩

set_option maxRecDepth 100000 in
set_option maxHeartbeats 4000000 in
theorem rec_Compare (cs cs' : List Value) (a b : Rc) (w : World) (hA : RcAt w cs a) (hU : RcAt w cs' b) (hk : RcOK a) (hk2 : RcOK b) :
    Calls Tryz.prog 14 #[.agg cs.toArray, .agg cs'.toArray] w fun e w' => e = .returned (.int .i64 (compareR a b)) ∧ Below w.heap.size w w' := by
  obtain ⟨vo, vn, vu, vt, vr, rfl, a1, a2⟩ := hA
  obtain ⟨uo, un, uu, ut, ur, rfl, b1, b2⟩ := hU
  have hb0 := fun o o' => ((Below.refl w.heap.size w).alloc (Nat.le_refl _) o).alloc (o := o') (by simp)
  have HN := Lib.hid (fun W (hb : Below w.heap.size w W) => kn_NCompare vo uo a.owner b.owner _ rfl W (a1.below hb) (b1.below hb) hk.1 hk2.1)
  have HD := Lib.hid (fun W (hb : Below w.heap.size w W) => rdata_Compare _ _ a.data b.data W (a2.below hb) (b2.below hb) hk.2.2 hk2.2.2)
  have hR := Lib.hid (show compareR a b = orI (compareN a.owner b.owner) (compareD a.data b.data) from rfl)
  generalize compareR a b = r at *
  generalize compareN a.owner b.owner = q at *
  generalize compareD a.data b.data = q2 at *
  generalize a.data.ty = x at *
  generalize b.data.ty = y at *
  generalize (a.ttl : Int) = ta at *
  generalize (b.ttl : Int) = tb at *
  obtain ⟨O1, hO1⟩ : ∃ O, O = Obj.cells #[vo, .int .u32 ta, .int .i64 x, vn, vu, vt, vr] 31 := ⟨_, rfl⟩
  obtain ⟨O2, hO2⟩ : ∃ O, O = Obj.cells #[uo, .int .u32 tb, .int .i64 y, un, uu, ut, ur] 31 := ⟨_, rfl⟩
  have hbb := hb0 O1 O2
  have HBB := Lib.hid hbb
  have hn := HN.out _ hbb
  have k1 : ((w.alloc O1).alloc O2).heap[w.heap.size]? = some O1 := (Below.heap_alloc (w.alloc O1) O2 w.heap.size (by simp)).trans (knew w O1)
  have k2 : ((w.alloc O1).alloc O2).heap[w.heap.size + 1]? = some O2 := by have := knew (w.alloc O1) O2; simpa using this
  rw [hO1] at k1 k2 hn HBB
  rw [hO2] at k1 k2 hn HBB
  have K1 := Lib.hid k1; have K2 := Lib.hid k2
  clear k1 k2 hbb hb0 a1 a2 b1 b2 hk hk2 hO1 hO2
  by_cases hq : q = 0
  · subst hq
    have HR : Hid (r = q2) := Lib.hid (by rw [hR.out]; rfl)
    clear hR
    go_enter Tryz.func14, Tryz.ntmps14
    go_wp2_with fail
    refine hn.mono ?_
    rintro e w1 ⟨rfl, hb1⟩
    have HB1 := Lib.hid (HBB.out.trans (hb1.mono HBB.out.size))
    have c1 := (hb1.block _ (kblock_lt K1.out)).trans K1.out
    have c2 := (hb1.block _ (kblock_lt K2.out)).trans K2.out
    have p2 := kcell c1 2 _ rfl; have p3 := kcell c1 3 _ rfl; have p4 := kcell c1 4 _ rfl; have p5 := kcell c1 5 _ rfl; have p6 := kcell c1 6 _ rfl
    have r2 := kcell c2 2 _ rfl; have r3 := kcell c2 3 _ rfl; have r4 := kcell c2 4 _ rfl; have r5 := kcell c2 5 _ rfl; have r6 := kcell c2 6 _ rfl
    clear hb1 c1 c2 hn
    have hd := HD.out w1 HB1.out
    go_wp2_with fail
    refine hd.mono ?_
    rintro e w2 ⟨rfl, hb2⟩
    go_wp2
    go_ret
    exact ⟨by rw [HR.out]; rfl, HB1.out.trans (hb2.mono HB1.out.size)⟩
  · have HR : Hid (r = q) := Lib.hid (by rw [hR.out]; unfold orI; rw [if_neg hq])
    have hqz : (q == 0) = false := by simpa using hq
    have hqn : (q != 0) = true := by simpa using hq
    clear hR
    go_enter Tryz.func14, Tryz.ntmps14
    go_wp2_with fail
    refine hn.mono ?_
    rintro e w1 ⟨rfl, hb1⟩
    have HB1 := Lib.hid (HBB.out.trans (hb1.mono HBB.out.size))
    clear hb1 hn
    go_wp2
    go_ret
    exact ⟨by rw [HR.out]; rfl, HB1.out⟩

set_option maxRecDepth 100000 in
set_option maxHeartbeats 4000000 in
theorem rec_Same (cs cs' : List Value) (a b : Rc) (w : World) (hA : RcAt w cs a) (hU : RcAt w cs' b) (hk : RcOK a) (hk2 : RcOK b) :
    Calls Tryz.prog 15 #[.agg cs.toArray, .agg cs'.toArray] w fun e w' => e = .returned (.bool (sameR a b)) ∧ Below w.heap.size w w' := by
  obtain ⟨vo, vn, vu, vt, vr, rfl, a1, a2⟩ := hA
  obtain ⟨uo, un, uu, ut, ur, rfl, b1, b2⟩ := hU
  have hb0 := fun o o' => ((Below.refl w.heap.size w).alloc (Nat.le_refl _) o).alloc (o := o') (by simp)
  have HN := Lib.hid (fun W (hb : Below w.heap.size w W) => kn_NSame vo uo a.owner b.owner _ rfl W (a1.below hb) (b1.below hb) hk.1 hk2.1)
  have HD := Lib.hid (fun W (hb : Below w.heap.size w W) => rdata_Same _ _ a.data b.data W (a2.below hb) (b2.below hb) hk.2.2 hk2.2.2)
  have hR := Lib.hid (show sameR a b = (sameN a.owner b.owner && (compareD a.data b.data == 0)) from by
    unfold sameR compareR orI
    have h0 := compareN_zero a.owner b.owner
    by_cases h : compareN a.owner b.owner = 0
    · rw [if_pos h, h0.1 h, Bool.true_and]
    · rw [if_neg h]
      have h2 : sameN a.owner b.owner = false := by
        cases hs : sameN a.owner b.owner
        · rfl
        · exact absurd (h0.2 hs) h
      rw [h2]; simpa using h)
  generalize sameR a b = r at *
  generalize sameN a.owner b.owner = q at *
  generalize (compareD a.data b.data == 0) = q2 at *
  generalize a.data.ty = x at *
  generalize b.data.ty = y at *
  generalize (a.ttl : Int) = ta at *
  generalize (b.ttl : Int) = tb at *
  obtain ⟨O1, hO1⟩ : ∃ O, O = Obj.cells #[vo, .int .u32 ta, .int .i64 x, vn, vu, vt, vr] 31 := ⟨_, rfl⟩
  obtain ⟨O2, hO2⟩ : ∃ O, O = Obj.cells #[uo, .int .u32 tb, .int .i64 y, un, uu, ut, ur] 31 := ⟨_, rfl⟩
  have hbb := hb0 O1 O2
  have HBB := Lib.hid hbb
  have hn := HN.out _ hbb
  have k1 : ((w.alloc O1).alloc O2).heap[w.heap.size]? = some O1 := (Below.heap_alloc (w.alloc O1) O2 w.heap.size (by simp)).trans (knew w O1)
  have k2 : ((w.alloc O1).alloc O2).heap[w.heap.size + 1]? = some O2 := by have := knew (w.alloc O1) O2; simpa using this
  rw [hO1] at k1 k2 hn HBB
  rw [hO2] at k1 k2 hn HBB
  have K1 := Lib.hid k1; have K2 := Lib.hid k2
  clear k1 k2 hbb hb0 a1 a2 b1 b2 hk hk2 hO1 hO2
  cases q
  · have HR : Hid (r = false) := Lib.hid (by rw [hR.out]; rfl)
    clear hR
    go_enter Tryz.func15, Tryz.ntmps15
    go_wp2_with fail
    refine hn.mono ?_
    rintro e w1 ⟨rfl, hb1⟩
    have HB1 := Lib.hid (HBB.out.trans (hb1.mono HBB.out.size))
    clear hb1 hn
    go_wp2
    go_ret
    exact ⟨by rw [HR.out]; rfl, HB1.out⟩
  · have HR : Hid (r = q2) := Lib.hid (by rw [hR.out]; rfl)
    clear hR
    go_enter Tryz.func15, Tryz.ntmps15
    go_wp2_with fail
    refine hn.mono ?_
    rintro e w1 ⟨rfl, hb1⟩
    have HB1 := Lib.hid (HBB.out.trans (hb1.mono HBB.out.size))
    have c1 := (hb1.block _ (kblock_lt K1.out)).trans K1.out
    have c2 := (hb1.block _ (kblock_lt K2.out)).trans K2.out
    have p2 := kcell c1 2 _ rfl; have p3 := kcell c1 3 _ rfl; have p4 := kcell c1 4 _ rfl; have p5 := kcell c1 5 _ rfl; have p6 := kcell c1 6 _ rfl
    have r2 := kcell c2 2 _ rfl; have r3 := kcell c2 3 _ rfl; have r4 := kcell c2 4 _ rfl; have r5 := kcell c2 5 _ rfl; have r6 := kcell c2 6 _ rfl
    clear hb1 c1 c2 hn
    have hd := HD.out w1 HB1.out
    go_wp2_with fail
    refine hd.mono ?_
    rintro e w2 ⟨rfl, hb2⟩
    go_wp2
    go_ret
    exact ⟨by rw [HR.out]; rfl, HB1.out.trans (hb2.mono HB1.out.size)⟩
end Go.Proofs.YtfcdajldpnomfaaGreatDoor

/-
  rdata.Check.
-/
namespace Go.Proofs.YtfcdajldpnomfaaGreatDoor
set_option maxRecDepth 20000
open Go.RowKit Go.Shelf
set_option maxRecDepth 20000

theorem longT_not {l : Nm} {k : Nat} (hk : k < l.length) (h : 255 < l[k].length) : longT l = true := by
  unfold longT; rw [List.any_eq_true]; exact ⟨_, List.getElem_mem hk, by simpa using h⟩
theorem longT_snoc (l : Nm) (x : List UInt8) : longT (l ++ [x]) = (longT l || decide (255 < x.length)) := by simp [longT]
theorem headD_get (l : List Nat) (h : 0 < l.length) : l.headD 0 = l[0] := by
  cases l with
  | nil => simp at h
  | cons a r => rfl
def CheckPost (d : Dat) (w : World) (e : Ending) (w' : World) : Prop := e = .returned (.int .i64 (checkD d)) ∧ Below w.heap.size w w'
theorem check_fin {d : Dat} {w w' : World} {e : Ending} (er : Int) (h : checkD d = er) (he : e = .returned (.int .i64 er)) (hb : Below w.heap.size w w') : CheckPost d w e w' := by
  subst h; exact ⟨he, hb⟩
theorem checkD_type {d : Dat} (h : d.ty < 1 ∨ 65535 < d.ty) : checkD d = 6 := by unfold checkD; rw [if_pos h]
theorem checkD_count {d : Dat} (h : ¬ (d.ty < 1 ∨ 65535 < d.ty)) (h2 : countedM d = false) : checkD d = 2 := by unfold checkD; rw [if_neg h, if_pos h2]
theorem checkD_rest {d : Dat} (h : ¬ (d.ty < 1 ∨ 65535 < d.ty)) (h2 : countedM d = true) : checkD d = if checkNs d.names ≠ 0 then checkNs d.names else if d.ty = 15 ∧ 65535 < d.nums.headD 0 then 7 else if longT d.texts then 3 else if 1024 < d.raw.length then 3 else 0 := by
  unfold checkD; rw [if_neg h, if_neg (by rw [h2]; simp)]
set_option maxRecDepth 100000 in
set_option maxHeartbeats 8000000 in
theorem rdata_Check (v : Value) (d : Dat) (w : World) (hA : DatAt w v d) (hk : DatOK d) :
    Calls Tryz.prog 32 #[v] w (CheckPost d w) := by
  have hC := fun W (hb : Below w.heap.size w W) => rdata_counted v d W (hA.below hb)
  obtain ⟨vn, vu, vt, vr, rfl, ⟨vs, s1, sl, s2⟩, a2, a3, a4⟩ := id hA
  obtain ⟨an, cn, rfl, _⟩ := id s1
  obtain ⟨au, cu, rfl, _⟩ := id a2
  obtain ⟨ax, cx, rfl, _⟩ := id a3.1
  obtain ⟨ar, cr, rfl, _⟩ := id a4
  rw [List.length_map] at hA hC ⊢
  rw [List.length_map] at hA hC ⊢
  obtain ⟨t, ht⟩ : ∃ t, d.ty = t := ⟨_, rfl⟩
  obtain ⟨n1, hn1⟩ : ∃ n, vs.length = n := ⟨_, rfl⟩
  obtain ⟨n2, hn2⟩ : ∃ n, d.nums.length = n := ⟨_, rfl⟩
  obtain ⟨n3, hn3⟩ : ∃ n, d.texts.length = n := ⟨_, rfl⟩
  obtain ⟨n4, hn4⟩ : ∃ n, d.raw.length = n := ⟨_, rfl⟩
  have hnm : ∀ W, Below w.heap.size w W → ∀ j (h1 : j < vs.length) (h2 : j < d.names.length), NmAt W vs[j] d.names[j] := fun W hb j h1 _ => (s2 j h1).below hb
  have hcn := fun W (hb : Below w.heap.size w W) j (hj : j < vs.length) => s1.cell hb j hj
  have hcu := fun W (hb : Below w.heap.size w W) j (hj : j < (d.nums.map u32V).length) => a2.cell hb j hj
  have hcx := fun W (hb : Below w.heap.size w W) j (hj : j < d.texts.length) => a3.1.cell hb j hj
  rw [ht, hn1, hn2, hn3, hn4] at hA hC ⊢
  have hb0 : Below w.heap.size w (w.alloc (.cells #[.int .i64 t, .slice an n1 cn, .slice au n2 cu, .slice ax n3 cx, .slice ar n4 cr] 29)) := (Below.refl _ w).alloc (Nat.le_refl _) _
  by_cases hty : t < 1 ∨ 65535 < t
  · have H0 := Lib.hid (checkD_type (d := d) (by rw [ht]; exact hty))
    have ht2 : t < 1 ∨ (¬ t < 1 ∧ 65535 < t) := by omega
    have HB0 := Lib.hid hb0
    clear hty hC hnm hcn hcu hcx s1 s2 sl a2 a3 a4 ht hn1 hn2 hn3 hn4 hk hA hb0
    rcases ht2 with h1 | ⟨h1, h2⟩
    all_goals
      go_enter Tryz.func32, Tryz.ntmps32
      go_wp2
      go_ret
      exact check_fin 6 H0.out rfl HB0.out
  have h1 : ¬ t < 1 := by omega
  have h2 : ¬ 65535 < t := by omega
  cases hcm : countedM d with
  | false =>
    have H0 := Lib.hid (checkD_count (d := d) (by rw [ht]; exact hty) hcm)
    rw [hcm] at hC
    have hCz := hC _ hb0
    have HB0 := Lib.hid hb0
    clear hty hC hnm hcn hcu hcx s1 s2 sl a2 a3 a4 ht hn1 hn2 hn3 hn4 hk hcm hA hb0
    go_enter Tryz.func32, Tryz.ntmps32
    go_wp2_with (go_at_call 65; refine hCz.mono ?_; rintro e w2 ⟨rfl, hb2⟩)
    go_ret
    exact check_fin 2 H0.out rfl (HB0.out.trans (hb2.mono HB0.out.size))
  | true =>
    have hrest := checkD_rest (d := d) (by rw [ht]; exact hty) hcm
    rw [hcm] at hC
    have hCz := hC _ hb0
    have hn15 : t = 15 → n2 = 1 := fun h => by
      have e := countedM_lit d 1 1 0 (by rw [ht, h]; rfl) (by rw [ht, h]; decide)
      rw [hcm] at e
      have := of_decide_eq_true e.symm
      omega
    have hnums0 : ∀ (h : 0 < d.nums.length), d.nums.headD 0 = d.nums[0] := fun h => headD_get d.nums h
    have hnb : ∀ m ∈ d.nums, m < 2 ^ 32 := hk.2.2.2.2.1
    have hxb := hk.2.2.2.2.2.1
    have hnok := hk.2.2.1
    have hl1 : n1 ≤ 1048576 := by have := hk.2.1; omega
    have hl3 : n3 ≤ 1048576 := by have := hxb.1; omega
    have HL1 := Lib.hid (show d.names.length = n1 by rw [← sl, hn1])
    have HV1 := Lib.hid hn1
    have HL2 := Lib.hid hn2; have HL3 := Lib.hid hn3; have HL4 := Lib.hid hn4
    have hbox := fun j v hv => new_at w [.int .i64 t, .slice an n1 cn, .slice au n2 cu, .slice ax n3 cx, .slice ar n4 cr] 29 j v hv
    have HB0 := Lib.hid hb0
    have HCN := Lib.hid hcn; have HCU := Lib.hid hcu; have HCX := Lib.hid hcx; have HNM := Lib.hid hnm; have HNOK := Lib.hid hnok
    have HN15 := Lib.hid hn15; have HNS := Lib.hid hnums0; have HNB := Lib.hid hnb
    rw [ht] at hrest
    have HR := Lib.hid hrest
    clear hty hC hnm hcn hcu hcx s1 s2 sl a2 a3 a4 ht hn1 hn2 hn3 hn4 hk hcm hA hb0 hrest hnok hn15 hnums0 hnb hxb
    have hbs : w.heap.size < (w.alloc (.cells #[.int .i64 t, .slice an n1 cn, .slice au n2 cu, .slice ax n3 cx, .slice ar n4 cr] 29)).heap.size := by simp
    have HBX : Hid (∀ W, Below (w.alloc (.cells #[.int .i64 t, .slice an n1 cn, .slice au n2 cu, .slice ax n3 cx, .slice ar n4 cr] 29)).heap.size (w.alloc (.cells #[.int .i64 t, .slice an n1 cn, .slice au n2 cu, .slice ax n3 cx, .slice ar n4 cr] 29)) W →
        W.cell? ⟨w.heap.size, 0, none⟩ = some (.int .i64 t) ∧ W.cell? ⟨w.heap.size, 1, none⟩ = some (.slice an n1 cn) ∧ W.cell? ⟨w.heap.size, 2, none⟩ = some (.slice au n2 cu) ∧ W.cell? ⟨w.heap.size, 3, none⟩ = some (.slice ax n3 cx) ∧ W.cell? ⟨w.heap.size, 4, none⟩ = some (.slice ar n4 cr)) := Lib.hid (fun W hb =>
      ⟨(hb.cell (p := ⟨w.heap.size, 0, none⟩) hbs).trans (hbox 0 _ rfl), (hb.cell (p := ⟨w.heap.size, 1, none⟩) hbs).trans (hbox 1 _ rfl), (hb.cell (p := ⟨w.heap.size, 2, none⟩) hbs).trans (hbox 2 _ rfl), (hb.cell (p := ⟨w.heap.size, 3, none⟩) hbs).trans (hbox 3 _ rfl), (hb.cell (p := ⟨w.heap.size, 4, none⟩) hbs).trans (hbox 4 _ rfl)⟩)
    clear hbox
    have hAll : ∃ W0, w.alloc (.cells #[.int .i64 t, .slice an n1 cn, .slice au n2 cu, .slice ax n3 cx, .slice ar n4 cr] 29) = W0 := ⟨_, rfl⟩
    go_enter Tryz.func32, Tryz.ntmps32
    go_wp2_with (go_at_call 65; refine hCz.mono ?_; rintro e w2 ⟨rfl, hb2⟩; obtain ⟨x0, x1, x2, x3, x4⟩ := HBX.out _ hb2)
    obtain ⟨W0, hW0⟩ := hAll
    rw [hW0] at hb2 HBX HB0
    clear hW0 hCz hbs x0 x1 x2 x3 x4
    have hBw2 := HB0.out.trans (hb2.mono HB0.out.size)
    have hW0z := HB0.out.size
    go_loopw [22] (fun i wr => ∃ k : Nat, i = .int .i64 k ∧ k ≤ n1 ∧ Hid (checkNs (d.names.take k) = 0) ∧ Below W0.heap.size W0 wr) (fun i _ => n1 - (intOf i).toNat)
    case atStart => exact ⟨0, rfl, Nat.zero_le _, Lib.hid rfl, hb2⟩
    case round =>
      obtain ⟨k, rfl, hk0, HC0, hBk⟩ := hrel
      have hBw : Below w.heap.size w wr := HB0.out.trans (hBk.mono hW0z)
      by_cases hlt : k < n1
      · have hkd : k < d.names.length := by rw [HL1.out]; exact hlt
        have hkv : k < vs.length := by rw [HV1.out]; exact hlt
        obtain ⟨g, off, rfl, hg, hcell⟩ := HCN.out wr hBw k hkv
        have hNC := name_Check vs[k] d.names[k] wr (HNM.out wr hBw k hkv hkd).1 (HNOK.out _ (List.getElem_mem hkd))
        have hsn : checkNs (d.names.take (k + 1)) = checkN d.names[k] := by rw [List.take_succ_eq_append_getElem hkd, checkNs_snoc, if_pos HC0.out]
        obtain ⟨er, her⟩ : ∃ er, checkN d.names[k] = er := ⟨_, rfl⟩
        rw [her] at hNC hsn
        have HSN := Lib.hid hsn
        clear her hsn
        generalize vs[k] = sv at *
        by_cases he : (er != 0) = true
        · have H0 := Lib.hid (show checkD d = er by
            have hne : er ≠ 0 := by simpa using he
            have hst : checkNs d.names = er := by rw [checkNs_stop (List.take_prefix (k + 1) d.names) (by rw [HSN.out]; exact hne), HSN.out]
            rw [HR.out, if_pos (by rw [hst]; exact hne), hst])
          go_wp2_with (go_at_call 31; refine hNC.mono ?_; rintro e w3 ⟨rfl, hb3⟩)
          go_ret
          exact check_fin er H0.out rfl (hBw.trans (hb3.mono hBw.size))
        · have he0 : er = 0 := by simpa using he
          subst he0
          clear he
          go_wp2_with (go_at_call 31; refine hNC.mono ?_; rintro e w3 ⟨rfl, hb3⟩)
          go_roundw
          case rel => exact ⟨k + 1, by go_num, by omega, HSN, hBk.trans (hb3.mono hBk.size)⟩
          case measure => simp [intOf]; omega
      · obtain rfl : k = n1 := by omega
        have hc0 := HC0.out
        rw [List.take_of_length_le (by rw [HL1.out]; exact Nat.le_refl _)] at hc0
        have hz := HR.out
        rw [if_neg (by rw [hc0]; simp)] at hz
        obtain ⟨x0, x1, x2, x3, x4⟩ := HBX.out _ hBk
        clear hc0 HC0
        by_cases h15 : (t == 15) = true
        · have ht15 : t = 15 := by simpa using h15
          have hn2 := HN15.out ht15
          have hnl : 0 < d.nums.length := by rw [HL2.out, hn2]; omega
          obtain ⟨g, off, rfl, hg, hcu⟩ := HCU.out wr hBw 0 (by rw [List.length_map]; exact hnl)
          rw [List.getElem_map, Nat.add_zero] at hcu
          unfold u32V at hcu
          have hh := HNS.out hnl
          rw [hh] at hz
          have hnb := HNB.out _ (List.getElem_mem hnl)
          obtain ⟨m, hm⟩ : ∃ m, d.nums[0] = m := ⟨_, rfl⟩
          rw [hm] at hcu hz hnb
          have hm0 : (0 : Int) ≤ (m : Int) := by omega
          have hm1 : (m : Int) ≤ 4294967295 := by omega
          have hn2i : (0 : Int) < (n2 : Int) := by omega
          clear hh hm hnb hnl
          by_cases hov : 65535 < (m : Int)
          · have H0 := Lib.hid (show checkD d = 7 by rw [hz, if_pos ⟨ht15, by omega⟩])
            clear hz ht15 hn2
            go_wp2
            go_ret
            exact check_fin 7 H0.out rfl hBw
          · have HZ := Lib.hid (show checkD d = if longT d.texts then 3 else if 1024 < d.raw.length then 3 else 0 by rw [hz, if_neg (by omega)])
            clear hz ht15 hn2
            go_wp2_with fail
            go_loop [45] (fun i => ∃ j : Nat, i = .int .i64 j ∧ j ≤ n3 ∧ Hid (longT (d.texts.take j) = false)) (fun i => n3 - (intOf i).toNat)
            case atStart => exact ⟨0, rfl, Nat.zero_le _, Lib.hid rfl⟩
            case round =>
              obtain ⟨j, rfl, hj, HT⟩ := hrel
              by_cases hjt : j < n3
              · have hjx : j < d.texts.length := by rw [HL3.out]; exact hjt
                obtain ⟨g, off, rfl, hg, hcell⟩ := HCX.out wr hBw j hjx
                obtain ⟨x, hx0, hxz, hxv⟩ := str_of d.texts[j]
                rw [hxv] at hcell
                by_cases hlong : 255 < (x.size : Int)
                · have H0 := Lib.hid (show checkD d = 3 by rw [HZ.out, if_pos (longT_not hjx (by omega))])
                  clear hx0 hxz hxv
                  go_wp2
                  go_ret
                  exact check_fin 3 H0.out rfl hBw
                · have HT2 := Lib.hid (show longT (d.texts.take (j + 1)) = false by
                    rw [List.take_succ_eq_append_getElem hjx, longT_snoc, HT.out]
                    simp; omega)
                  clear hx0 hxz hxv HT
                  go_wp2
                  go_round
                  case rel => exact ⟨j + 1, by go_num, by omega, HT2⟩
                  case measure => simp [intOf]; omega
              · obtain rfl : j = n3 := by omega
                have hlt0 := HT.out
                rw [List.take_of_length_le (by rw [HL3.out]; exact Nat.le_refl _)] at hlt0
                have HZ2 := Lib.hid (show checkD d = if 1024 < n4 then 3 else 0 by rw [HZ.out, if_neg (by rw [hlt0]; simp), HL4.out])
                clear hlt0 HT HZ
                by_cases hraw : 1024 < (n4 : Int)
                · have H0 := Lib.hid (show checkD d = 3 by rw [HZ2.out, if_pos (by omega)])
                  go_wp2
                  go_ret
                  exact check_fin 3 H0.out rfl hBw
                · have H0 := Lib.hid (show checkD d = 0 by rw [HZ2.out, if_neg (by omega)])
                  go_wp2
                  go_ret
                  exact check_fin 0 H0.out rfl hBw
        · have h15f : (t == 15) = false := by simpa using h15
          have HZ := Lib.hid (show checkD d = if longT d.texts then 3 else if 1024 < d.raw.length then 3 else 0 by rw [hz, if_neg (by rintro ⟨h, _⟩; apply h15; simp [h])])
          clear hz h15
          go_wp2_with fail
          go_loop [45] (fun i => ∃ j : Nat, i = .int .i64 j ∧ j ≤ n3 ∧ Hid (longT (d.texts.take j) = false)) (fun i => n3 - (intOf i).toNat)
          case atStart => exact ⟨0, rfl, Nat.zero_le _, Lib.hid rfl⟩
          case round =>
            obtain ⟨j, rfl, hj, HT⟩ := hrel
            by_cases hjt : j < n3
            · have hjx : j < d.texts.length := by rw [HL3.out]; exact hjt
              obtain ⟨g, off, rfl, hg, hcell⟩ := HCX.out wr hBw j hjx
              obtain ⟨x, hx0, hxz, hxv⟩ := str_of d.texts[j]
              rw [hxv] at hcell
              by_cases hlong : 255 < (x.size : Int)
              · have H0 := Lib.hid (show checkD d = 3 by rw [HZ.out, if_pos (longT_not hjx (by omega))])
                clear hx0 hxz hxv
                go_wp2
                go_ret
                exact check_fin 3 H0.out rfl hBw
              · have HT2 := Lib.hid (show longT (d.texts.take (j + 1)) = false by
                  rw [List.take_succ_eq_append_getElem hjx, longT_snoc, HT.out]
                  simp; omega)
                clear hx0 hxz hxv HT
                go_wp2
                go_round
                case rel => exact ⟨j + 1, by go_num, by omega, HT2⟩
                case measure => simp [intOf]; omega
            · obtain rfl : j = n3 := by omega
              have hlt0 := HT.out
              rw [List.take_of_length_le (by rw [HL3.out]; exact Nat.le_refl _)] at hlt0
              have HZ2 := Lib.hid (show checkD d = if 1024 < n4 then 3 else 0 by rw [HZ.out, if_neg (by rw [hlt0]; simp), HL4.out])
              clear hlt0 HT HZ
              by_cases hraw : 1024 < (n4 : Int)
              · have H0 := Lib.hid (show checkD d = 3 by rw [HZ2.out, if_pos (by omega)])
                go_wp2
                go_ret
                exact check_fin 3 H0.out rfl hBw
              · have H0 := Lib.hid (show checkD d = 0 by rw [HZ2.out, if_neg (by omega)])
                go_wp2
                go_ret
                exact check_fin 0 H0.out rfl hBw
end Go.Proofs.YtfcdajldpnomfaaGreatDoor

/-
  rdata.readOctets.
-/
namespace Go.Proofs.YtfcdajldpnomfaaGreatDoor
set_option maxRecDepth 20000
open Go.RowKit Go.Shelf

theorem WdsAt.drop {W : World} {g off n c : Nat} {l : List Wd} (h : WdsAt W (.slice (some ⟨g, off, none⟩) n c) l) (hn : l.length = n) (h1 : 1 ≤ n) :
    WdsAt W (.slice (if c = 1 then some ⟨g, off, none⟩ else some ⟨g, off + 2, none⟩) (n - 1) (c - 1)) (l.drop 1) := by
  obtain ⟨a, c', e, h2, h3, h⟩ := h
  rw [Value.slice.injEq] at e
  obtain ⟨rfl, _, rfl⟩ := e
  refine ⟨_, _, by rw [List.length_drop, hn], by rw [List.length_drop, hn]; omega, ?_, ?_⟩
  · intro h; split at h <;> cases h
  · rcases h with h | ⟨b, o, e, hb, hcell⟩
    · subst h; simp at hn; omega
    · rw [Option.some.injEq] at e
      cases e
      by_cases h4 : c = 1
      · left; exact List.eq_nil_of_length_eq_zero (by rw [List.length_drop]; omega)
      · right
        rw [if_neg h4]
        refine ⟨g, off + 2, rfl, hb, fun j hj => ?_⟩
        have hj' : j + 1 < l.length := by rw [List.length_drop] at hj; omega
        have := hcell (j + 1) hj'
        rw [show off + (j + 1) * 2 = off + 2 + j * 2 by omega] at this
        rw [List.getElem_drop]
        simp only [Nat.add_comm 1 j]
        exact this
theorem WdsOK.drop {l : List Wd} (h : WdsOK l) (k : Nat) : WdsOK (l.drop k) := ⟨by have := h.1; rw [List.length_drop]; omega, fun x hx => h.2 x (List.mem_of_mem_drop hx)⟩
theorem halvesL_len (l : List Wd) (h : WdsOK l) : (halvesL l).length ≤ l.length * 500000 := by
  have h := h.2
  have key : ∀ l : List Wd, (∀ x ∈ l, x.1.length ≤ 500000) → (halvesL l).length ≤ l.length * 500000 := by
    intro l h
    induction l with
    | nil => simp [halvesL]
    | cons x r ih =>
      have h1 := h x (by simp)
      have h2 := ih (fun y hy => h y (by simp [hy]))
      simp only [halvesL, List.flatMap_cons, List.length_append, List.length_map, List.length_cons] at h2 ⊢
      omega
  exact key l h
theorem pairUp_len : ∀ (n : Nat) (l : List UInt8), l.length = 2 * n → (pairUp l).length = n
  | 0, l, h => by
    have e : l = [] := List.eq_nil_of_length_eq_zero (by omega)
    subst e; rfl
  | n + 1, a :: b :: r, h => by simp only [pairUp, List.length_cons] at h ⊢; rw [pairUp_len n r (by omega)]
  | n + 1, [], h => by simp at h
  | n + 1, [_], h => by simp at h; omega
theorem pairUp_snoc : ∀ (n : Nat) (l : List UInt8) (h : 2 * n + 1 < l.length), pairUp (l.take (2 * (n + 1))) = pairUp (l.take (2 * n)) ++ [UInt8.ofNat (16 * l[2 * n].toNat + l[2 * n + 1].toNat)]
  | 0, a :: b :: r, _ => by simp [pairUp]
  | n + 1, a :: b :: r, h => by
    have h' : 2 * n + 1 < r.length := by simp at h; omega
    have ih := pairUp_snoc n r h'
    have e1 : (a :: b :: r).take (2 * (n + 1 + 1)) = a :: b :: r.take (2 * (n + 1)) := by
      rw [show 2 * (n + 1 + 1) = 2 * (n + 1) + 1 + 1 by omega]; rfl
    have e2 : (a :: b :: r).take (2 * (n + 1)) = a :: b :: r.take (2 * n) := by
      rw [show 2 * (n + 1) = 2 * n + 1 + 1 by omega]; rfl
    rw [e1, e2]
    simp only [pairUp, ih, List.cons_append, List.cons.injEq, List.append_cancel_left_eq, and_true, true_and]
    congr 1
  | 0, [], h => by simp at h
  | 0, [_], h => by simp at h
  | n + 1, [], h => by simp at h
  | n + 1, [_], h => by simp at h
theorem halves_lt {l : List Wd} {x : UInt8} (h : x ∈ halvesL l) : x.toNat < 16 := by
  unfold halvesL at h
  obtain ⟨y, _, hy⟩ := List.mem_flatMap.1 h
  obtain ⟨c, _, rfl⟩ := List.mem_map.1 hy
  have := hexV_lt c
  unfold hexW
  have h : (UInt8.ofNat (hexV c)).toNat = hexV c := by simp; omega
  omega
theorem nibbles (a b : UInt8) (h1 : a.toNat < 16) (h2 : b.toNat < 16) : [Value.int .u8 (bits .or .u8 (IntKind.u8.wrap ((a.toNat : Int) * 16)) (b.toNat : Int))] = [UInt8.ofNat (16 * a.toNat + b.toNat)].map bv := by
  rw [show IntKind.u8.wrap ((a.toNat : Int) * 16) = (a.toNat : Int) * 16 by rw [IntKind.wrap_u8]; omega]
  have h : bits .or .u8 ((a.toNat : Int) * 16) (b.toNat : Int) = ((16 * a.toNat + b.toNat : Nat) : Int) := by
    rw [show ((a.toNat : Int) * 16) = ((16 * a.toNat : Nat) : Int) by omega, u8_or_nat _ _ (by omega) (by omega)]
    congr 1
    have key : ∀ x y : Fin 16, 16 * x.val ||| y.val = 16 * x.val + y.val := by decide
    exact key ⟨_, h1⟩ ⟨_, h2⟩
  have e : (UInt8.ofNat (16 * a.toNat + b.toNat)).toNat = 16 * a.toNat + b.toNat := by simp; omega
  simp only [List.map_cons, List.map_nil, bv, h, e]
theorem counted_addr (t : Int) (xs : List UInt8) (h : t = 1 ∨ t = 28) : countedM ⟨t, [], [], [], xs⟩ = decide (¬ (t = 1 ∧ xs.length ≠ 4 ∨ t = 28 ∧ xs.length ≠ 16)) := by
  rcases h with rfl | rfl
  · rw [countedM_lit _ 0 0 4 rfl (by show (1 : Int) ≠ 16; decide)]; apply decide_eq_decide.2; simp
  · rw [countedM_lit _ 0 0 16 rfl (by show (28 : Int) ≠ 16; decide)]; apply decide_eq_decide.2; simp
/-- The loop over the pairs, cut off: what octetsD says behind its tests. -/
theorem octetsD_known {t : Int} {l : List Wd} (h : knownM t = true) (h2 : ¬ (t = 1 ∨ t = 28)) : octetsD t l = ([], 6) := by unfold octetsD; rw [if_pos ⟨h, h2⟩]
theorem octetsD_nil {t : Int} (h : ¬ (knownM t = true ∧ ¬ (t = 1 ∨ t = 28))) : octetsD t [] = ([], 2) := by unfold octetsD; rw [if_neg h]
theorem octetsD_cons {t : Int} {s : List UInt8} {q : Bool} {r : List Wd} (h : ¬ (knownM t = true ∧ ¬ (t = 1 ∨ t = 28))) : octetsD t ((s, q) :: r) =
    if q then ([], 2) else if (numM s 4294967295).2 ≠ 0 then ([], (numM s 4294967295).2) else if 1024 < (numM s 4294967295).1 then ([], 3) else
    if halvesOK r = false ∨ (halvesL r).length ≠ 2 * (numM s 4294967295).1 then ([], 2) else if (t = 1 ∧ (numM s 4294967295).1 ≠ 4) ∨ (t = 28 ∧ (numM s 4294967295).1 ≠ 16) then ([], 2) else (pairUp (halvesL r), 0) := by
  unfold octetsD; rw [if_neg h]

end Go.Proofs.YtfcdajldpnomfaaGreatDoor

