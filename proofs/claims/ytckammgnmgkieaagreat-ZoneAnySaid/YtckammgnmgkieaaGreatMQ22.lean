/-
  The document's CheckRec, CompareRec, SameRec. (Written by wip/tools/genref5.py.)
-/
import Derived.Test.YtckammgnmgkieaaGreatMQ42
import Derived.Test.YtckammgnmgkieaaGreatMQ04
import Derived.Test.YtckammgnmgkieaaGreatMQ03
import Derived.Test.YtckammgnmgkieaaGreatMQ12
namespace Go.Proofs.YtckammgnmgkieaaGreat
set_option maxRecDepth 20000
open Go.RowKit Go.Shelf
set_option maxRecDepth 20000
set_option linter.unusedVariables false
set_option linter.unusedSimpArgs false

set_option maxRecDepth 100000 in
set_option maxHeartbeats 4000000 in
theorem ref_CheckRec (cs : List Value) (r : Rc) (w : World) (hA : RcAt w cs r) (hk : RcOK r) :
    Calls Tryz.prog 123 #[.agg cs.toArray] w fun e w' => e = .returned (.int .i64 (checkR r)) ∧ Below w.heap.size w w' := by
  obtain ⟨vo, vn, vu, vt, vr, rfl, a1, a2⟩ := hA
  have HN := Lib.hid (fun W (hb : Below w.heap.size w W) => kn_RCheck vo r.owner _ rfl W (a1.below hb) hk.1)
  have HD := Lib.hid (fun W (hb : Below w.heap.size w W) => ref_CheckData _ r.data W (a2.below hb) hk.2.2)
  unfold CheckPost at HD
  have hR := Lib.hid (show checkR r = if checkN r.owner ≠ 0 then checkN r.owner else if 2147483647 < r.ttl then 7 else checkD r.data from rfl)
  generalize checkR r = res at *
  generalize checkN r.owner = q at *
  generalize checkD r.data = q2 at *
  generalize r.data.ty = x at *
  obtain ⟨t, ht⟩ : ∃ t, r.ttl = t := ⟨_, rfl⟩
  rw [ht] at hR ⊢
  have hb0 : Below w.heap.size w (w.alloc (.cells #[vo, .int .u32 (t : Int), .int .i64 x, vn, vu, vt, vr] 109)) := (Below.refl w.heap.size w).alloc (Nat.le_refl _) _
  have K1 := Lib.hid (knew w (.cells #[vo, .int .u32 (t : Int), .int .i64 x, vn, vu, vt, vr] 109))
  have HBB := Lib.hid hb0
  have hn := HN.out _ hb0
  clear a1 a2 hb0 hk ht HN
  by_cases hq : q = 0
  · subst hq
    by_cases hov : 2147483647 < t
    · have HR : Hid (res = 7) := Lib.hid (by rw [hR.out, if_neg (by simp), if_pos hov])
      have hovz : (2147483647 : Int) < (t : Int) := by omega
      clear hR
      go_enter Tryz.func123, Tryz.ntmps123
      go_wp2_with fail
      refine hn.mono ?_
      rintro e w1 ⟨rfl, hb1⟩
      have c1 := (hb1.block _ (kblock_lt K1.out)).trans K1.out
      have p1 := kcell c1 1 (.int .u32 (t : Int)) rfl
      have HB1 := Lib.hid (HBB.out.trans (hb1.mono HBB.out.size))
      clear hn hb1 c1
      go_wp2
      go_ret
      exact ⟨by rw [HR.out]; rfl, HB1.out⟩
    · have HR : Hid (res = q2) := Lib.hid (by rw [hR.out, if_neg (by simp), if_neg hov])
      have hovz : ¬ (2147483647 : Int) < (t : Int) := by omega
      clear hR
      go_enter Tryz.func123, Tryz.ntmps123
      go_wp2_with fail
      refine hn.mono ?_
      rintro e w1 ⟨rfl, hb1⟩
      have c1 := (hb1.block _ (kblock_lt K1.out)).trans K1.out
      have p1 := kcell c1 1 (.int .u32 (t : Int)) rfl; have p2 := kcell c1 2 _ rfl; have p3 := kcell c1 3 _ rfl; have p4 := kcell c1 4 _ rfl; have p5 := kcell c1 5 _ rfl; have p6 := kcell c1 6 _ rfl
      have HB1 := Lib.hid (HBB.out.trans (hb1.mono HBB.out.size))
      have hd := HD.out w1 HB1.out
      clear hn hb1 c1
      go_wp2_with fail
      refine hd.mono ?_
      rintro e w2 ⟨rfl, hb2⟩
      go_wp2
      go_ret
      exact ⟨by rw [HR.out]; rfl, HB1.out.trans (hb2.mono HB1.out.size)⟩
  · have HR : Hid (res = q) := Lib.hid (by rw [hR.out, if_pos hq])
    have hqz : (q == 0) = false := by simpa using hq
    have hqn : (q != 0) = true := by simpa using hq
    clear hR
    go_enter Tryz.func123, Tryz.ntmps123
    go_wp2_with fail
    refine hn.mono ?_
    rintro e w1 ⟨rfl, hb1⟩
    have HB1 := Lib.hid (HBB.out.trans (hb1.mono HBB.out.size))
    clear hn hb1
    go_wp2
    go_ret
    exact ⟨by rw [HR.out]; rfl, HB1.out⟩

set_option maxRecDepth 100000 in
set_option maxHeartbeats 4000000 in
theorem ref_CompareRec (cs cs' : List Value) (a b : Rc) (w : World) (hA : RcAt w cs a) (hU : RcAt w cs' b) (hk : RcOK a) (hk2 : RcOK b) :
    Calls Tryz.prog 119 #[.agg cs.toArray, .agg cs'.toArray] w fun e w' => e = .returned (.int .i64 (compareR a b)) ∧ Below w.heap.size w w' := by
  obtain ⟨vo, vn, vu, vt, vr, rfl, a1, a2⟩ := hA
  obtain ⟨uo, un, uu, ut, ur, rfl, b1, b2⟩ := hU
  have hb0 := fun o o' => ((Below.refl w.heap.size w).alloc (Nat.le_refl _) o).alloc (o := o') (by simp)
  have HN := Lib.hid (fun W (hb : Below w.heap.size w W) => kn_RCompare vo uo a.owner b.owner _ rfl W (a1.below hb) (b1.below hb) hk.1 hk2.1)
  have HD := Lib.hid (fun W (hb : Below w.heap.size w W) => ref_CompareData _ _ a.data b.data W (a2.below hb) (b2.below hb) hk.2.2 hk2.2.2)
  have hR := Lib.hid (show compareR a b = orI (compareN a.owner b.owner) (compareD a.data b.data) from rfl)
  generalize compareR a b = r at *
  generalize compareN a.owner b.owner = q at *
  generalize compareD a.data b.data = q2 at *
  generalize a.data.ty = x at *
  generalize b.data.ty = y at *
  generalize (a.ttl : Int) = ta at *
  generalize (b.ttl : Int) = tb at *
  obtain ⟨O1, hO1⟩ : ∃ O, O = Obj.cells #[vo, .int .u32 ta, .int .i64 x, vn, vu, vt, vr] 109 := ⟨_, rfl⟩
  obtain ⟨O2, hO2⟩ : ∃ O, O = Obj.cells #[uo, .int .u32 tb, .int .i64 y, un, uu, ut, ur] 109 := ⟨_, rfl⟩
  have hbb := hb0 O1 O2
  have HBB := Lib.hid hbb
  have hn := HN.out _ hbb
  have k1 : ((w.alloc O1).alloc O2).heap[w.heap.size]? = some O1 := (Below.heap_alloc (w.alloc O1) O2 w.heap.size (by simp)).trans (knew w O1)
  have k2 : ((w.alloc O1).alloc O2).heap[w.heap.size + 1]? = some O2 := by have := knew (w.alloc O1) O2; simpa using this
  rw [hO1] at k1 k2 hn HBB
  rw [hO2] at k1 k2 hn HBB
  have K1 := Lib.hid k1; have K2 := Lib.hid k2
  clear k1 k2 hbb hb0 a1 a2 b1 b2 hk hk2 hO1 hO2
  by_cases hq : q = 0
  · subst hq
    have HR : Hid (r = q2) := Lib.hid (by rw [hR.out]; rfl)
    clear hR
    go_enter Tryz.func119, Tryz.ntmps119
    go_wp2_with fail
    refine hn.mono ?_
    rintro e w1 ⟨rfl, hb1⟩
    have HB1 := Lib.hid (HBB.out.trans (hb1.mono HBB.out.size))
    have c1 := (hb1.block _ (kblock_lt K1.out)).trans K1.out
    have c2 := (hb1.block _ (kblock_lt K2.out)).trans K2.out
    have p2 := kcell c1 2 _ rfl; have p3 := kcell c1 3 _ rfl; have p4 := kcell c1 4 _ rfl; have p5 := kcell c1 5 _ rfl; have p6 := kcell c1 6 _ rfl
    have r2 := kcell c2 2 _ rfl; have r3 := kcell c2 3 _ rfl; have r4 := kcell c2 4 _ rfl; have r5 := kcell c2 5 _ rfl; have r6 := kcell c2 6 _ rfl
    clear hb1 c1 c2 hn
    have hd := HD.out w1 HB1.out
    go_wp2_with fail
    refine hd.mono ?_
    rintro e w2 ⟨rfl, hb2⟩
    go_wp2
    go_ret
    exact ⟨by rw [HR.out]; rfl, HB1.out.trans (hb2.mono HB1.out.size)⟩
  · have HR : Hid (r = q) := Lib.hid (by rw [hR.out]; unfold orI; rw [if_neg hq])
    have hqz : (q == 0) = false := by simpa using hq
    have hqn : (q != 0) = true := by simpa using hq
    clear hR
    go_enter Tryz.func119, Tryz.ntmps119
    go_wp2_with fail
    refine hn.mono ?_
    rintro e w1 ⟨rfl, hb1⟩
    have HB1 := Lib.hid (HBB.out.trans (hb1.mono HBB.out.size))
    clear hb1 hn
    go_wp2
    go_ret
    exact ⟨by rw [HR.out]; rfl, HB1.out⟩

set_option maxRecDepth 100000 in
set_option maxHeartbeats 4000000 in
theorem ref_SameRec (cs cs' : List Value) (a b : Rc) (w : World) (hA : RcAt w cs a) (hU : RcAt w cs' b) (hk : RcOK a) (hk2 : RcOK b) :
    Calls Tryz.prog 120 #[.agg cs.toArray, .agg cs'.toArray] w fun e w' => e = .returned (.bool (sameR a b)) ∧ Below w.heap.size w w' := by
  have HS := Lib.hid (fun W (hb : Below w.heap.size w W) => ref_CompareRec cs cs' a b W (hA.below hb) (hU.below hb) hk hk2)
  obtain ⟨vo, vn, vu, vt, vr, rfl, -⟩ := hA
  obtain ⟨uo, un, uu, ut, ur, rfl, -⟩ := hU
  have hR := Lib.hid (show sameR a b = (compareR a b == 0) from rfl)
  generalize sameR a b = res at *
  generalize compareR a b = q at *
  generalize a.data.ty = x at *
  generalize b.data.ty = y at *
  generalize (a.ttl : Int) = ta at *
  generalize (b.ttl : Int) = tb at *
  obtain ⟨O1, hO1⟩ : ∃ O, O = Obj.cells #[vo, .int .u32 ta, .int .i64 x, vn, vu, vt, vr] 109 := ⟨_, rfl⟩
  obtain ⟨O2, hO2⟩ : ∃ O, O = Obj.cells #[uo, .int .u32 tb, .int .i64 y, un, uu, ut, ur] 109 := ⟨_, rfl⟩
  have hbb := ((Below.refl w.heap.size w).alloc (Nat.le_refl _) O1).alloc (o := O2) (by simp)
  have HBB := Lib.hid hbb
  have hn := HS.out _ hbb
  rw [hO1, hO2] at hn HBB
  clear hbb hk hk2 hO1 hO2 HS
  go_enter Tryz.func120, Tryz.ntmps120
  go_wp2_with fail
  refine hn.mono ?_
  rintro e w1 ⟨rfl, hb1⟩
  have HB1 := Lib.hid (HBB.out.trans (hb1.mono HBB.out.size))
  clear hb1 hn
  go_wp2
  go_ret
  exact ⟨by rw [hR.out]; rfl, HB1.out⟩
end Go.Proofs.YtckammgnmgkieaaGreat

