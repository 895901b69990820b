import Derived.Deep.CutBlock
import Derived.Deep.DeepCutAuto
import Derived.Laws.AppendOwnNone
import Derived.Lib.Walk
import Derived.Lib.SliceRun
import Derived.Sort.QuietTacIn
import Derived.Sort.BigQuietIn
import Derived.Test.YtckammgnmgkieaaGreatMQ24
import Derived.Test.YtckammgnmgkieaaGreatMQ09
namespace Go.Proofs.YtckammgnmgkieaaGreat
set_option linter.unusedVariables false
set_option linter.unusedSimpArgs false
set_option maxRecDepth 100000
set_option maxHeartbeats 4000000
open Go.RowKit Go.Shelf
def RcAt (W : World) (cs : List Value) (r : Rc) : Prop :=
 ∃ vo vn vu vt vr, cs = [vo, .int .u32 (r.ttl : Int), .int .i64 r.data.ty, vn, vu, vt, vr] ∧ NmAt W vo r.owner ∧ DatAt W (.agg #[.int .i64 r.data.ty, vn, vu, vt, vr]) r.data
def RcOK (r : Rc) : Prop := NmOK r.owner ∧ r.ttl < 2 ^ 32 ∧ DatOK r.data
theorem RcAt.below {W W' : World} {cs : List Value} {r : Rc} (h : RcAt W cs r) (hb : Below W.heap.size W W') : RcAt W' cs r := by
 obtain ⟨vo, vn, vu, vt, vr, e, h1, h2⟩ := h
 exact ⟨vo, vn, vu, vt, vr, e, h1.below hb, h2.below hb⟩
theorem qiI (cs cs' : List Value) (a b : Rc) (w : World) (hA : RcAt w cs a) (hU : RcAt w cs' b) (hk : RcOK a) (hk2 : RcOK b) :
 Calls Tryz.prog 114 #[.agg cs.toArray, .agg cs'.toArray] w fun e w' => e = .returned (.int .i64 (qac a b)) ∧ Below w.heap.size w w' := by
 obtain ⟨vo, vn, vu, vt, vr, rfl, a1, a2⟩ := hA
 obtain ⟨uo, un, uu, ut, ur, rfl, b1, b2⟩ := hU
 have hb0 := fun o o' => ((Below.refl w.heap.size w).alloc (qN0) o).alloc (o := o') (by simp)
 have HN := qH0 (fun W (hb : Below w.heap.size w W) => qiS vo uo a.owner b.owner _ rfl W (a1.below hb) (b1.below hb) hk.1 hk2.1)
 have HD := qH0 (fun W (hb : Below w.heap.size w W) => qdS _ _ a.data b.data W (a2.below hb) (b2.below hb) hk.2.2 hk2.2.2)
 have hR := qH0 (show qac a b = orI (qai a.owner b.owner) (qao a.data b.data) from rfl)
 generalize qac a b = r at *
 generalize qai a.owner b.owner = q at *
 generalize qao a.data b.data = q2 at *
 generalize a.data.ty = x at *
 generalize b.data.ty = y at *
 generalize (a.ttl : Int) = ta at *
 generalize (b.ttl : Int) = tb at *
 obtain ⟨O1, hO1⟩ : ∃ O, O = Obj.cells #[vo, .int .u32 ta, .int .i64 x, vn, vu, vt, vr] 103 := ⟨_, rfl⟩
 obtain ⟨O2, hO2⟩ : ∃ O, O = Obj.cells #[uo, .int .u32 tb, .int .i64 y, un, uu, ut, ur] 103 := ⟨_, rfl⟩
 have hbb := hb0 O1 O2
 have HBB := qH0 hbb
 have hn := HN.out _ hbb
 have k1 : ((w.alloc O1).alloc O2).heap[w.heap.size]? = some O1 := (Below.heap_alloc (w.alloc O1) O2 w.heap.size (by simp)).trans (knew w O1)
 have k2 : ((w.alloc O1).alloc O2).heap[w.heap.size + 1]? = some O2 := by have := knew (w.alloc O1) O2; simpa using this
 rw [hO1] at k1 k2 hn HBB
 rw [hO2] at k1 k2 hn HBB
 have K1 := qH0 k1; have K2 := qH0 k2
 clear k1 k2 hbb hb0 a1 a2 b1 b2 hk hk2 hO1 hO2
 by_cases hq : q = 0
 ·subst hq
  have HR : Hid (r = q2) := qH0 (by rw [hR.out]; rfl)
  clear hR
  go_enter Tryz.func114, Tryz.ntmps114
  go_wp2_with fail
  refine hn.mono ?_
  rintro e w1 ⟨rfl, hb1⟩
  have HB1 := qH0 (qB0 HBB.out hb1)
  have c1 := (hb1.block _ (qaa K1.out)).trans K1.out
  have c2 := (hb1.block _ (qaa K2.out)).trans K2.out
  have p2 := kcell c1 2 _ rfl; have p3 := kcell c1 3 _ rfl; have p4 := kcell c1 4 _ rfl; have p5 := kcell c1 5 _ rfl; have p6 := kcell c1 6 _ rfl
  have r2 := kcell c2 2 _ rfl; have r3 := kcell c2 3 _ rfl; have r4 := kcell c2 4 _ rfl; have r5 := kcell c2 5 _ rfl; have r6 := kcell c2 6 _ rfl
  clear hb1 c1 c2 hn
  have hd := HD.out w1 HB1.out
  go_wp2_with fail
  refine hd.mono ?_
  rintro e w2 ⟨rfl, hb2⟩
  go_wp2
  go_ret
  exact ⟨by rw [HR.out]; rfl, qB0 HB1.out hb2⟩
 ·have HR : Hid (r = q) := qH0 (by rw [hR.out]; unfold orI; rw [if_neg hq])
  have hqz : (q == 0) = false := by simpa using hq
  have hqn : (q != 0) = true := by simpa using hq
  clear hR
  go_enter Tryz.func114, Tryz.ntmps114
  go_wp2_with fail
  refine hn.mono ?_
  rintro e w1 ⟨rfl, hb1⟩
  have HB1 := qH0 (qB0 HBB.out hb1)
  clear hb1 hn
  go_wp2
  go_ret
  exact ⟨by rw [HR.out]; rfl, HB1.out⟩
theorem qlL (cs cs' : List Value) (a b : Rc) (w : World) (hA : RcAt w cs a) (hU : RcAt w cs' b) (hk : RcOK a) (hk2 : RcOK b) :
 Calls Tryz.prog 115 #[.agg cs.toArray, .agg cs'.toArray] w fun e w' => e = .returned (.bool (sameR a b)) ∧ Below w.heap.size w w' := by
 obtain ⟨vo, vn, vu, vt, vr, rfl, a1, a2⟩ := hA
 obtain ⟨uo, un, uu, ut, ur, rfl, b1, b2⟩ := hU
 have hb0 := fun o o' => ((Below.refl w.heap.size w).alloc (qN0) o).alloc (o := o') (by simp)
 have HN := qH0 (fun W (hb : Below w.heap.size w W) => qbL vo uo a.owner b.owner _ rfl W (a1.below hb) (b1.below hb) hk.1 hk2.1)
 have HD := qH0 (fun W (hb : Below w.heap.size w W) => qfy _ _ a.data b.data W (a2.below hb) (b2.below hb) hk.2.2 hk2.2.2)
 have hR := qH0 (show sameR a b = (sameN a.owner b.owner && (qao a.data b.data == 0)) from by
  unfold sameR qac orI
  have h0 := qcB a.owner b.owner
  by_cases h : qai a.owner b.owner = 0
  ·rw [if_pos h, h0.1 h, Bool.true_and]
  ·rw [if_neg h]
   have h2 : sameN a.owner b.owner = false := by
    cases hs : sameN a.owner b.owner
    ·rfl
    ·exact absurd (h0.2 hs) h
   rw [h2]; simpa using h)
 generalize sameR a b = r at *
 generalize sameN a.owner b.owner = q at *
 generalize (qao a.data b.data == 0) = q2 at *
 generalize a.data.ty = x at *
 generalize b.data.ty = y at *
 generalize (a.ttl : Int) = ta at *
 generalize (b.ttl : Int) = tb at *
 obtain ⟨O1, hO1⟩ : ∃ O, O = Obj.cells #[vo, .int .u32 ta, .int .i64 x, vn, vu, vt, vr] 103 := ⟨_, rfl⟩
 obtain ⟨O2, hO2⟩ : ∃ O, O = Obj.cells #[uo, .int .u32 tb, .int .i64 y, un, uu, ut, ur] 103 := ⟨_, rfl⟩
 have hbb := hb0 O1 O2
 have HBB := qH0 hbb
 have hn := HN.out _ hbb
 have k1 : ((w.alloc O1).alloc O2).heap[w.heap.size]? = some O1 := (Below.heap_alloc (w.alloc O1) O2 w.heap.size (by simp)).trans (knew w O1)
 have k2 : ((w.alloc O1).alloc O2).heap[w.heap.size + 1]? = some O2 := by have := knew (w.alloc O1) O2; simpa using this
 rw [hO1] at k1 k2 hn HBB
 rw [hO2] at k1 k2 hn HBB
 have K1 := qH0 k1; have K2 := qH0 k2
 clear k1 k2 hbb hb0 a1 a2 b1 b2 hk hk2 hO1 hO2
 cases q
 ·have HR : Hid (r = false) := qH0 (by rw [hR.out]; rfl)
  clear hR
  go_enter Tryz.func115, Tryz.ntmps115
  go_wp2_with fail
  refine hn.mono ?_
  rintro e w1 ⟨rfl, hb1⟩
  have HB1 := qH0 (qB0 HBB.out hb1)
  clear hb1 hn
  go_wp2
  go_ret
  exact ⟨by rw [HR.out]; rfl, HB1.out⟩
 ·have HR : Hid (r = q2) := qH0 (by rw [hR.out]; rfl)
  clear hR
  go_enter Tryz.func115, Tryz.ntmps115
  go_wp2_with fail
  refine hn.mono ?_
  rintro e w1 ⟨rfl, hb1⟩
  have HB1 := qH0 (qB0 HBB.out hb1)
  have c1 := (hb1.block _ (qaa K1.out)).trans K1.out
  have c2 := (hb1.block _ (qaa K2.out)).trans K2.out
  have p2 := kcell c1 2 _ rfl; have p3 := kcell c1 3 _ rfl; have p4 := kcell c1 4 _ rfl; have p5 := kcell c1 5 _ rfl; have p6 := kcell c1 6 _ rfl
  have r2 := kcell c2 2 _ rfl; have r3 := kcell c2 3 _ rfl; have r4 := kcell c2 4 _ rfl; have r5 := kcell c2 5 _ rfl; have r6 := kcell c2 6 _ rfl
  clear hb1 c1 c2 hn
  have hd := HD.out w1 HB1.out
  go_wp2_with fail
  refine hd.mono ?_
  rintro e w2 ⟨rfl, hb2⟩
  go_wp2
  go_ret
  exact ⟨by rw [HR.out]; rfl, qB0 HB1.out hb2⟩
end Go.Proofs.YtckammgnmgkieaaGreat
namespace Go.Proofs.YtckammgnmgkieaaGreat
set_option linter.unusedVariables false
set_option linter.unusedSimpArgs false
set_option maxRecDepth 1000000
set_option maxHeartbeats 8000000
set_option linter.unusedSectionVars false
open Go.RowKit Go.Shelf Go.Sort Go.Lib
variable {P : Program} {α : Type} [Inhabited α]
def qb8 (enc : α → List Value) (k : Nat) (cf : α → α → Int) (tg : α → Nat) (w : World) (blk off : Nat) (d : Array α) (a b : Nat) (e : Ending) (w' : World) : Prop :=
 e = .returned (.tuple #[]) ∧ ∃ d' : Array α, PermIn a b d d' ∧ Stb.Rise cf tg a b d' ∧ SW enc k w blk off d' w'
structure One1 (cf : α → α → Int) (a b i j : Nat) (d : Array α) : Prop where
 lo : i = a + 1 ∨ cf d[i - 1]! d[a]! < 0
 hi : j = b ∨ ¬ cf d[j]! d[a]! < 0
structure Shu (enc : α → List Value) (k : Nat) (w : World) (blk off : Nat) (d : Array α) (a q m : Nat) (dk : Array α) (W : World) : Prop where
 size : dk.size = d.size
 at_ : ∀ x, x < d.size → dk[x]! = Stb.shu a q (fun i => d[i]!) x
 perm : PermIn a m d dk
 sw : SW enc k w blk off dk W
theorem qhs {k : Nat} (L : SLay P k) (hF : P.funcs[209]? = some Tryz.f209) (enc : α → List Value) (hk : ∀ x, (enc x).length = k) (h1 : ∀ x, ∀ v ∈ enc x, v.oneCell' = true) (cf : α → α → Int) (tg : α → Nat) (hO : Stb.COrd cf) (g : Nat) (cb : Array Value)
 (blk off cap a m b : Nat) (hm : m = a + 1) (d : Array α) (w : World) (hcmp : CmpB P g cb enc cf w blk) (hH : HoldsK enc k w blk off d) (hblk : blk < w.heap.size) (hM : Stb.Mrg cf tg a m b d) (hsz : d.size < 4611686018427387904) :
 Calls P 209 #[.slice (some ⟨blk, off, none⟩) d.size cap, .int .i64 a, .int .i64 m, .int .i64 b, .func (.func g) #[] cb] w (qb8 enc k cf tg w blk off d a b) := by
 have mixed := L.mixed; have t0 := L.t0; have a0 := L.a0; have z0 := L.z0; have v0 := L.v0; have t3 := L.t3; have a3 := L.a3; have z3 := L.z3; have v3 := L.v3; have t4 := L.t4; have a4 := L.a4; have z4 := L.z4; have v4 := L.v4; have t85 := L.t85; have a85 := L.a85; have z85 := L.z85; have v85 := L.v85; have t43 := L.t43; have a43 := L.a43; have z43 := L.z43; have v43 := L.v43; have t69 := L.t69; have a69 := L.a69; have z69 := L.z69; have v69 := L.v69; have aE := L.aE; have zE := L.zE
 have u43 := run_underlying L.t43
 have hm1 : m ≤ a + 1 := by omega
 have hm2 : a + 1 ≤ m := by omega
 have HMM := qH0 hm
 have hmb : m < b := hM.mb
 have hb : b ≤ d.size := hM.bs
 have HM := qH0 hM
 have HC := qH0 hcmp
 have eg := hcmp.eg
 have HK := qH0 hk; have H1 := qH0 h1
 have HST : Hid (SW enc k w blk off d w) := qH0 (SW.refl hH hblk)
 have c1 : ((m : Int) - (a : Int)) = 1 := by omega
 clear hcmp hH hk h1 hblk hM hm
 obtain ⟨xa, hxa⟩ : ∃ x, d[a]! = x := ⟨_, rfl⟩
 have HXA := qH0 hxa
 clear hxa
 go_enter hF, Tryz.ntmps209
 go_wp2
 go_loopw [10, 11] (fun vi vj wr => ∃ (i j : Nat), vi = .int .i64 i ∧ vj = .int .i64 j ∧ a + 1 ≤ i ∧ i ≤ j ∧ j ≤ b ∧ Hid (One1 cf a b i j d) ∧ Hid (SW enc k w blk off d wr)) (fun vi vj _ => (intOf vj).toNat - (intOf vi).toNat)
 case atStart => exact ⟨m, b, rfl, rfl, by omega, by omega, qN0, qH0 ⟨Or.inl HMM.out, Or.inl rfl⟩, HST⟩
 case round =>
  obtain ⟨i, j, rfl, rfl, hi, hij, hjb, HP, HW⟩ := hrel
  by_cases hlt : i < j
  ·have hltz : (i : Int) < (j : Int) := by omega
   obtain ⟨h, hh⟩ : ∃ h : Nat, (i + j) / 2 = h := ⟨_, rfl⟩
   have hhz : ((i : Int) + (j : Int)) / 2 = (h : Int) := by omega
   have h1 : i ≤ h := by omega
   have h2 : h < j := by omega
   have h3 : (h : Int) < (d.size : Int) := by omega
   have h4 : (a : Int) < (d.size : Int) := by omega
   clear hh
   obtain ⟨xh, hxh⟩ : ∃ x, d[h]! = x := ⟨_, rfl⟩
   have lh : ∀ p : WIn (fun W => SW enc k w blk off d W), Sem.run P (loadCellsFrom ⟨blk, off + h * k, none⟩ 0 k #[]) p.w = .ok (enc xh).toArray p.w := fun p => by
    rw [← hxh]; exact p.ok.load P HK.out h (by omega)
   have la : ∀ p : WIn (fun W => SW enc k w blk off d W), Sem.run P (loadCellsFrom ⟨blk, off + a * k, none⟩ 0 k #[]) p.w = .ok (enc xa).toArray p.w := fun p => by
    rw [← HXA.out]; exact p.ok.load P HK.out a (by omega)
   have hne : Nonempty (WIn (fun W => SW enc k w blk off d W)) := ⟨⟨_, HW.out.drew⟩⟩
   have hcg := fun p : WIn (fun W => SW enc k w blk off d W) => HC.out.cls d p xh xa
   have HXH := qH0 hxh
   clear hxh
   by_cases hlv : cf xh xa < 0
   ·have HN : Hid (One1 cf a b (h + 1) j d) := qH0 ⟨Or.inr (by rw [Nat.add_sub_cancel, HXH.out, HXA.out]; exact hlv), HP.out.hi⟩
    go_wp2_with fail
    refine qaf (fun W => SW enc k w blk off d W) mixed (by kernel_rfl) HW.out.drew ?_
    repeat (quiet_step (first | (go_at_fn g; exact hcg _)))
    refine wpQuiet_nil ?_
    rintro _ ⟨p, rfl⟩
    go_wp2
    go_roundw
    case measure => simp [intOf]; omega
    case rel => exact ⟨h + 1, j, by go_num, rfl, by omega, by omega, hjb, HN, qH0 p.ok⟩
   ·have HN : Hid (One1 cf a b i h d) := qH0 ⟨HP.out.lo, Or.inr (by rw [HXH.out, HXA.out]; exact hlv)⟩
    go_wp2_with fail
    refine qaf (fun W => SW enc k w blk off d W) mixed (by kernel_rfl) HW.out.drew ?_
    repeat (quiet_step (first | (go_at_fn g; exact hcg _)))
    refine wpQuiet_nil ?_
    rintro _ ⟨p, rfl⟩
    go_wp2
    go_roundw
    case measure => simp [intOf]; omega
    case rel => exact ⟨i, h, rfl, rfl, by omega, by omega, by omega, HN, qH0 p.ok⟩
  ·obtain rfl : i = j := by omega
   have HS0 : Hid (Shu enc k w blk off d a a b d wr) := qH0 ⟨rfl, fun x _ => (Stb.shu_zero a _ x).symm, permIn_refl d a _, HW.out⟩
   clear HW hlt hij
   rename World => wo
   go_wp2
   go_loopw [13] (fun vq wr => ∃ (q : Nat) (dk : Array α), vq = .int .i64 q ∧ a ≤ q ∧ q ≤ i - 1 ∧ Hid (Shu enc k w blk off d a q b dk wr)) (fun vq _ => i - 1 - (intOf vq).toNat)
   case atStart => exact ⟨a, d, rfl, qN0, by omega, HS0⟩
   case round =>
    obtain ⟨q, dk, rfl, hq, hqi, HS⟩ := hrel
    by_cases hlt : q < i - 1
    ·have hltz : (q : Int) < (i : Int) - 1 := by omega
     obtain ⟨x0, hx0⟩ : ∃ x, dk[q]! = x := ⟨_, rfl⟩
     obtain ⟨x1, hx1⟩ : ∃ x, dk[q + 1]! = x := ⟨_, rfl⟩
     have hsk := HS.out.size
     have hD := HS.out.sw.drew
     have l0 := hD.load P HK.out q (by omega)
     have l1 := hD.load P HK.out (q + 1) (by omega)
     have s1 := hD.store1 P HK.out H1.out q (by omega) x1
     have s2 := hD.store2 P HK.out H1.out q (q + 1) (by omega) (by omega) x1 x0
     rw [hx0] at l0
     rw [hx1] at l1
     have hs0 : (enc x0).length = k := HK.out _
     have hs1 : (enc x1).length = k := HK.out _
     have HN : Hid (Shu enc k w blk off d a (q + 1) b (swp dk q (q + 1)) ((wr.drew.setCells blk (off + q * k) (enc x1)).setCells blk (off + (q + 1) * k) (enc x0))) := by
      have h := HS.out
      refine qH0 ⟨by rw [size_swp]; exact hsk, Stb.shu_step hq (by omega) hsk h.at_, permIn_trans _ _ _ a b h.perm (swp_permIn dk a b q (q + 1) hq (by omega) (by omega) (by omega) (by omega)), ?_⟩
      have := hD.swap HK.out q (q + 1) (by omega) (by omega)
      rwa [hx0, hx1] at this
     obtain ⟨ca, hca⟩ : ∃ c, c = enc x0 := ⟨_, rfl⟩
     obtain ⟨cb, hcb⟩ : ∃ c, c = enc x1 := ⟨_, rfl⟩
     rw [← hca] at l0 hs0
     rw [← hcb] at l1 hs1 s1
     rw [← hca, ← hcb] at s2 HN
     have ja : (q : Int) < (d.size : Int) := by omega
     have jb : (q : Int) + 1 < (d.size : Int) := by omega
     have pb : (0 : Int) ≤ (q : Int) + 1 := by omega
     have eb : ((q : Int) + 1).toNat = q + 1 := by omega
     clear hca hcb hD hsk hx0 hx1
     go_wp2_with fail
     go_big_region_o
     all_goals go_wp2
     go_roundw
     case measure => simp [intOf]; omega
     case rel => exact ⟨q + 1, _, by go_num, by omega, by omega, HN⟩
    ·obtain rfl : q = i - 1 := by omega
     have hltz : ¬ ((i - 1 : Nat) : Int) < (i : Int) - 1 := by omega
     go_wp2
     go_end0
     have h := HS.out
     have hM := HM.out
     have hm := HMM.out
     subst hm
     exact ⟨rfl, dk, h.perm, hM.one hO hi hjb HP.out.lo HP.out.hi h.at_, h.sw⟩
end Go.Proofs.YtckammgnmgkieaaGreat
namespace Go.Proofs.YtckammgnmgkieaaGreat
set_option linter.unusedVariables false
set_option linter.unusedSimpArgs false
set_option maxRecDepth 1000000
set_option maxHeartbeats 8000000
set_option linter.unusedSectionVars false
open Go.RowKit Go.Shelf Go.Sort Go.Lib
variable {P : Program} {α : Type} [Inhabited α]
structure One2 (cf : α → α → Int) (a m i j : Nat) (d : Array α) : Prop where
 lo : i = a ∨ ¬ cf d[m]! d[i - 1]! < 0
 hi : j = m ∨ cf d[m]! d[j]! < 0
structure Shd (enc : α → List Value) (k : Nat) (w : World) (blk off : Nat) (d : Array α) (a b m q : Nat) (dk : Array α) (W : World) : Prop where
 size : dk.size = d.size
 at_ : ∀ x, x < d.size → dk[x]! = Stb.shd q m (fun i => d[i]!) x
 perm : PermIn a b d dk
 sw : SW enc k w blk off dk W
theorem qg8 {k : Nat} (L : SLay P k) (hF : P.funcs[209]? = some Tryz.f209) (enc : α → List Value) (hk : ∀ x, (enc x).length = k) (h1 : ∀ x, ∀ v ∈ enc x, v.oneCell' = true) (cf : α → α → Int) (tg : α → Nat) (hO : Stb.COrd cf) (g : Nat) (cb : Array Value)
 (blk off cap a m b : Nat) (hma : m ≠ a + 1) (hbm : b = m + 1) (d : Array α) (w : World) (hcmp : CmpB P g cb enc cf w blk) (hH : HoldsK enc k w blk off d) (hblk : blk < w.heap.size) (hM : Stb.Mrg cf tg a m b d) (hsz : d.size < 4611686018427387904) :
 Calls P 209 #[.slice (some ⟨blk, off, none⟩) d.size cap, .int .i64 a, .int .i64 m, .int .i64 b, .func (.func g) #[] cb] w (qb8 enc k cf tg w blk off d a b) := by
 have mixed := L.mixed; have t0 := L.t0; have a0 := L.a0; have z0 := L.z0; have v0 := L.v0; have t3 := L.t3; have a3 := L.a3; have z3 := L.z3; have v3 := L.v3; have t4 := L.t4; have a4 := L.a4; have z4 := L.z4; have v4 := L.v4; have t85 := L.t85; have a85 := L.a85; have z85 := L.z85; have v85 := L.v85; have t43 := L.t43; have a43 := L.a43; have z43 := L.z43; have v43 := L.v43; have t69 := L.t69; have a69 := L.a69; have z69 := L.z69; have v69 := L.v69; have aE := L.aE; have zE := L.zE
 have u43 := run_underlying L.t43
 have ham : a < m := hM.am
 have hb : b ≤ d.size := hM.bs
 have hm1 : b ≤ m + 1 := by omega
 have hm2 : m + 1 ≤ b := by omega
 have HMM := qH0 hbm
 have HM := qH0 hM
 have HC := qH0 hcmp
 have eg := hcmp.eg
 have HK := qH0 hk; have H1 := qH0 h1
 have HST : Hid (SW enc k w blk off d w) := qH0 (SW.refl hH hblk)
 have c1 : ((m : Int) - (a : Int) == 1) = false := by simp; omega
 have c2 : ((b : Int) - (m : Int)) = 1 := by omega
 have ham2 : a + 2 ≤ m := by omega
 clear hcmp hH hk h1 hblk hM hma hbm
 obtain ⟨xm, hxm⟩ : ∃ x, d[m]! = x := ⟨_, rfl⟩
 have HXM := qH0 hxm
 clear hxm
 go_enter hF, Tryz.ntmps209
 go_wp2
 go_loopw [14, 15] (fun vi vj wr => ∃ (i j : Nat), vi = .int .i64 i ∧ vj = .int .i64 j ∧ a ≤ i ∧ i ≤ j ∧ j ≤ m ∧ Hid (One2 cf a m i j d) ∧ Hid (SW enc k w blk off d wr)) (fun vi vj _ => (intOf vj).toNat - (intOf vi).toNat)
 case atStart => exact ⟨a, m, rfl, rfl, qN0, by omega, qN0, qH0 ⟨Or.inl rfl, Or.inl rfl⟩, HST⟩
 case round =>
  obtain ⟨i, j, rfl, rfl, hi, hij, hjb, HP, HW⟩ := hrel
  by_cases hlt : i < j
  ·have hltz : (i : Int) < (j : Int) := by omega
   obtain ⟨h, hh⟩ : ∃ h : Nat, (i + j) / 2 = h := ⟨_, rfl⟩
   have hhz : ((i : Int) + (j : Int)) / 2 = (h : Int) := by omega
   have h1 : i ≤ h := by omega
   have h2 : h < j := by omega
   have h3 : (h : Int) < (d.size : Int) := by omega
   have h4 : (m : Int) < (d.size : Int) := by omega
   clear hh
   obtain ⟨xh, hxh⟩ : ∃ x, d[h]! = x := ⟨_, rfl⟩
   have lh : ∀ p : WIn (fun W => SW enc k w blk off d W), Sem.run P (loadCellsFrom ⟨blk, off + h * k, none⟩ 0 k #[]) p.w = .ok (enc xh).toArray p.w := fun p => by
    rw [← hxh]; exact p.ok.load P HK.out h (by omega)
   have la : ∀ p : WIn (fun W => SW enc k w blk off d W), Sem.run P (loadCellsFrom ⟨blk, off + m * k, none⟩ 0 k #[]) p.w = .ok (enc xm).toArray p.w := fun p => by
    rw [← HXM.out]; exact p.ok.load P HK.out m (by omega)
   have hne : Nonempty (WIn (fun W => SW enc k w blk off d W)) := ⟨⟨_, HW.out.drew⟩⟩
   have hcg := fun p : WIn (fun W => SW enc k w blk off d W) => HC.out.cls d p xm xh
   have HXH := qH0 hxh
   clear hxh
   by_cases hlv : cf xm xh < 0
   ·have HN : Hid (One2 cf a m i h d) := qH0 ⟨HP.out.lo, Or.inr (by rw [HXH.out, HXM.out]; exact hlv)⟩
    go_wp2_with fail
    refine qaf (fun W => SW enc k w blk off d W) mixed (by kernel_rfl) HW.out.drew ?_
    repeat (quiet_step (first | (go_at_fn g; exact hcg _)))
    refine wpQuiet_nil ?_
    rintro _ ⟨p, rfl⟩
    go_wp2
    go_roundw
    case measure => simp [intOf]; omega
    case rel => exact ⟨i, h, rfl, rfl, by omega, by omega, by omega, HN, qH0 p.ok⟩
   ·have hlb : (!decide (cf xm xh < 0)) = true := by simp; omega
    have HN : Hid (One2 cf a m (h + 1) j d) := qH0 ⟨Or.inr (by rw [Nat.add_sub_cancel, HXH.out, HXM.out]; exact hlv), HP.out.hi⟩
    go_wp2_with fail
    refine qaf (fun W => SW enc k w blk off d W) mixed (by kernel_rfl) HW.out.drew ?_
    repeat (quiet_step (first | (go_at_fn g; exact hcg _)))
    refine wpQuiet_nil ?_
    rintro _ ⟨p, rfl⟩
    go_wp2
    go_roundw
    case measure => simp [intOf]; omega
    case rel => exact ⟨h + 1, j, by go_num, rfl, by omega, by omega, hjb, HN, qH0 p.ok⟩
  ·obtain rfl : i = j := by omega
   have HS0 : Hid (Shd enc k w blk off d a b m m d wr) := qH0 ⟨rfl, fun x _ => (Stb.shd_zero m _ x).symm, permIn_refl d a _, HW.out⟩
   clear HW hlt hij
   rename World => wo
   go_wp2
   go_loopw [17] (fun vq wr => ∃ (q : Nat) (dk : Array α), vq = .int .i64 q ∧ i ≤ q ∧ q ≤ m ∧ Hid (Shd enc k w blk off d a b m q dk wr)) (fun vq _ => (intOf vq).toNat - i)
   case atStart => exact ⟨m, d, rfl, by omega, qN0, HS0⟩
   case round =>
    obtain ⟨q, dk, rfl, hq, hqi, HS⟩ := hrel
    by_cases hlt : i < q
    ·obtain ⟨p, rfl⟩ : ∃ p, q = p + 1 := ⟨q - 1, by omega⟩
     have hltz : (i : Int) < (p : Int) + 1 := by omega
     obtain ⟨x0, hx0⟩ : ∃ x, dk[p]! = x := ⟨_, rfl⟩
     obtain ⟨x1, hx1⟩ : ∃ x, dk[p + 1]! = x := ⟨_, rfl⟩
     have hsk := HS.out.size
     have hD := HS.out.sw.drew
     have l0 := hD.load P HK.out p (by omega)
     have l1 := hD.load P HK.out (p + 1) (by omega)
     have s1 := hD.store1 P HK.out H1.out (p + 1) (by omega) x0
     have s2 := hD.store2 P HK.out H1.out (p + 1) p (by omega) (by omega) x0 x1
     rw [hx0] at l0
     rw [hx1] at l1
     have hs0 : (enc x0).length = k := HK.out _
     have hs1 : (enc x1).length = k := HK.out _
     have HN : Hid (Shd enc k w blk off d a b m p (swp dk (p + 1) p) ((wr.drew.setCells blk (off + (p + 1) * k) (enc x0)).setCells blk (off + p * k) (enc x1))) := by
      have h := HS.out
      refine qH0 ⟨by rw [size_swp]; exact hsk, Stb.shd_step hqi (by omega) hsk h.at_, permIn_trans _ _ _ a b h.perm (swp_permIn dk a b (p + 1) p (by omega) (by omega) (by omega) (by omega) (by omega)), ?_⟩
      have := hD.swap HK.out (p + 1) p (by omega) (by omega)
      rwa [hx0, hx1] at this
     obtain ⟨ca, hca⟩ : ∃ c, c = enc x0 := ⟨_, rfl⟩
     obtain ⟨cb, hcb⟩ : ∃ c, c = enc x1 := ⟨_, rfl⟩
     rw [← hca] at l0 hs0 s1
     rw [← hcb] at l1 hs1
     rw [← hca, ← hcb] at s2 HN
     have hwp : IntKind.i64.wrap (p : Int) = (p : Int) := by rw [IntKind.wrap_i64]; omega
     have ja : (p : Int) < (d.size : Int) := by omega
     have jb : (p : Int) + 1 < (d.size : Int) := by omega
     have pb : (0 : Int) ≤ (p : Int) + 1 := by omega
     have eb : ((p : Int) + 1).toNat = p + 1 := by omega
     clear hca hcb hD hsk hx0 hx1
     go_wp2_with fail
     go_big_region_o
     all_goals go_wp2
     go_roundw
     case measure => simp [intOf]; omega
     case rel => exact ⟨p, _, by first | rfl | go_num | (congr 1; omega), by omega, by omega, HN⟩
    ·obtain rfl : q = i := by omega
     have hltz : ¬ (q : Int) < (q : Int) := by omega
     go_wp2
     go_end0
     have h := HS.out
     have hM := HM.out
     have hm := HMM.out
     subst hm
     exact ⟨rfl, dk, h.perm, hM.last hO hi hjb HP.out.lo HP.out.hi h.at_, h.sw⟩
end Go.Proofs.YtckammgnmgkieaaGreat
namespace Go.Proofs.YtckammgnmgkieaaGreat
set_option linter.unusedVariables false
set_option linter.unusedSimpArgs false
set_option maxRecDepth 1000000
set_option maxHeartbeats 16000000
set_option linter.unusedSectionVars false
open Go.RowKit Go.Shelf Go.Sort Go.Lib
variable {P : Program} {α : Type} [Inhabited α]
structure Mids (cf : α → α → Int) (n s0 r0 s r : Nat) (d : Array α) : Prop where
 lo : s = s0 ∨ ¬ cf d[n - s]! d[s - 1]! < 0
 hi : r = r0 ∨ cf d[n - r - 1]! d[r]! < 0
def MidsAt (a m b mid s0 r0 : Nat) : Prop := (mid < m ∧ s0 = mid + m - b ∧ r0 = mid) ∨ (m ≤ mid ∧ s0 = a ∧ r0 = m)
structure Trn (enc : α → List Value) (k : Nat) (w : World) (blk off : Nat) (d : Array α) (a b m s e : Nat) (d' : Array α) (W : World) : Prop where
 size : d'.size = d.size
 at_ : ∀ x, x < d.size → d'[x]! = Stb.rot s m e (fun i => d[i]!) x
 perm : PermIn a b d d'
 sw : SW enc k w blk off d' W
theorem qkn {cf : α → α → Int} {tg : α → Nat} {a m b : Nat} {d d' : Array α} (h : Stb.Mrg cf tg a m b d) (hs : d'.size = d.size) (he : ∀ x, a ≤ x → x < b → d'[x]! = d[x]!) : Stb.Mrg cf tg a m b d' := by
 have am := h.am; have mb := h.mb; have bs := h.bs
 refine ⟨am, mb, by omega, h.l.congr fun x h1 h2 => he x h1 (by omega), h.r.congr fun x h1 h2 => he x (by omega) h2, fun i j h1 h2 h3 h4 => ?_⟩
 rw [he i h1 (by omega), he j (by omega) h4]
 exact h.x i j h1 h2 h3 h4
structure Hlf (enc : α → List Value) (k : Nat) (cf : α → α → Int) (tg : α → Nat) (w : World) (blk off : Nat) (a mid : Nat) (d d' : Array α) (W : World) : Prop where
 perm : PermIn a mid d d'
 rise : Stb.Rise cf tg a mid d'
 sw : SW enc k w blk off d' W
structure Trd (cf : α → α → Int) (tg : α → Nat) (a s mid e b : Nat) (d : Array α) : Prop where
 h1 : a < s → s < mid → Stb.Mrg cf tg a s mid d
 h2 : ¬ (a < s ∧ s < mid) → Stb.Rise cf tg a mid d
 h3 : mid < e → e < b → Stb.Mrg cf tg mid e b d
 h4 : ¬ (mid < e ∧ e < b) → Stb.Rise cf tg mid b d
 h5 : ∀ i j, a ≤ i → i < mid → mid ≤ j → j < b → Stb.Lx cf tg d[i]! d[j]!
def leftAt : Code → Option Nat
 | .region id _ _ => some id
 | .seq a _ => leftAt a
 | _ => none
def tailAt (n : Nat) : Code → Option Code
 | .seq a b => if leftAt a = some n then some (.seq a b) else (tailAt n a).or (tailAt n b)
 | .scope c => tailAt n c
 | .block _ c => tailAt n c
 | _ => none
noncomputable def qm1 : Code := (Tryz.f209.body.bind (tailAt 41)).getD .skip
theorem qhg {k : Nat} (L : SLay P k)
 (em : ∀ args w, (callFunc 209 args).run P w = .ok (.enter 209 args) w)
 (enc : α → List Value) (cf : α → α → Int) (tg : α → Nat) (g : Nat) (cb : Array Value)
 (blk off cap a m b mid s e : Nat) (d d1 : Array α) (w w1 : World) (k1 : a < mid) (k2 : mid < b) (hb : b ≤ d.size) (hsz : d.size < 4611686018427387904) (hem : e < 4611686018427387904) (hsm : s < 4611686018427387904)
 (HT : Hid (Trn enc k w blk off d a b m s e d1 w1)) (HTD : Hid (Trd cf tg a s mid e b d1))
 (IH : Hid (∀ (a' m' b' : Nat) (d' : Array α) (W : World), b' - a' < b - a → d'.size = d.size → SW enc k w blk off d' W → Stb.Mrg cf tg a' m' b' d' → Calls P 209 #[.slice (some ⟨blk, off, none⟩) d.size cap, .int .i64 a', .int .i64 m', .int .i64 b', .func (.func g) #[] cb] W (qb8 enc k cf tg W blk off d' a' b')))
 (u5 u6 u7 u8 u9 u10 u11 u12 u13 u14 u15 u16 u17 u19 u21 u22 u23 u25 u26 u27 u28 u29 u30 u31 u32 u33 u34 u35 u36 u37 u38 u39 u40 u41 u42 u43 u44 u45 u46 u47 u48 u49 u50 u51 u52 u53 u54 u55 u56 u57 u58 u59 u60 u61 u62 u63 u64 u65 u66 u67 u68 u69 u70 u71 u72 u73 u74 u75 u76 u77 u78 u79 u80 u81 u82 u83 u84 u85 u86 u87 u88 u89 u90 u91 u92 u93 u94 u95 u96 u97 u98 u99 u100 u101 u102 u103 u104 u105 u106 u107 u108 u109 u110 u111 u112 u113 u114 u115 u116 u117 u118 u119 u120 u121 u122 u123 u124 u125 u126 u127 u128 u129 u130 u131 u132 u133 u134 u135 u136 u137 u138 u139 u140 u141 u142 u143 u144 u145 u146 u147 u148 u149 u150 u151 u152 u153 u154 u155 u156 u157 u158 u159 u160 u161 u162 u163 u164 u165 u166 u167 u168 u169 u170 u171 u172 u173 u174 u175 u176 u177 u178 u179 u180 u181 u182 u183 u184 u185 u186 u187 u188 u189 u190 u191 u192 u193 u194 u195 u196 u197 u198 u199 u200 u201 u202 u203 u204 u205 u206 u207 u208 u209 u210 u211 u212 u213 u214 u215 u216 u217 u218 u219 : Value) :
 Code.wp P qm1 (bodyPost P Tryz.f209 (qb8 enc k cf tg w blk off d a b)) ⟨#[.slice (some ⟨blk, off, none⟩) d.size cap, .int .i64 a, .int .i64 m, .int .i64 b, .func (.func g) #[] cb, u5, u6, u7, u8, u9, u10, u11, u12, u13, u14, u15, u16, u17, .int .i64 mid, u19, .int .i64 s, u21, u22, u23, .int .i64 e, u25, u26, u27, u28, u29, u30, u31, u32, u33, u34, u35, u36, u37, u38, u39, u40, u41, u42, u43, u44, u45, u46, u47, u48, u49, u50, u51, u52, u53, u54, u55, u56, u57, u58, u59, u60, u61, u62, u63, u64, u65, u66, u67, u68, u69, u70, u71, u72, u73, u74, u75, u76, u77, u78, u79, u80, u81, u82, u83, u84, u85, u86, u87, u88, u89, u90, u91, u92, u93, u94, u95, u96, u97, u98, u99, u100, u101, u102, u103, u104, u105, u106, u107, u108, u109, u110, u111, u112, u113, u114, u115, u116, u117, u118, u119, u120, u121, u122, u123, u124, u125, u126, u127, u128, u129, u130, u131, u132, u133, u134, u135, u136, u137, u138, u139, u140, u141, u142, u143, u144, u145, u146, u147, u148, u149, u150, u151, u152, u153, u154, u155, u156, u157, u158, u159, u160, u161, u162, u163, u164, u165, u166, u167, u168, u169, u170, u171, u172, u173, u174, u175, u176, u177, u178, u179, u180, u181, u182, u183, u184, u185, u186, u187, u188, u189, u190, u191, u192, u193, u194, u195, u196, u197, u198, u199, u200, u201, u202, u203, u204, u205, u206, u207, u208, u209, u210, u211, u212, u213, u214, u215, u216, u217, u218, u219], []⟩ w1 := by
 have mixed := L.mixed; have t0 := L.t0; have a0 := L.a0; have z0 := L.z0; have v0 := L.v0; have t3 := L.t3; have a3 := L.a3; have z3 := L.z3; have v3 := L.v3; have t4 := L.t4; have a4 := L.a4; have z4 := L.z4; have v4 := L.v4; have t85 := L.t85; have a85 := L.a85; have z85 := L.z85; have v85 := L.v85; have t43 := L.t43; have a43 := L.a43; have z43 := L.z43; have v43 := L.v43; have t69 := L.t69; have a69 := L.a69; have z69 := L.z69; have v69 := L.v69; have aE := L.aE; have zE := L.zE
 have u43 := run_underlying L.t43
 conv => arg 2; whnf
 conv => arg 4; zeta
 go_upto_region 41 with (fail)
 go_cut [199] (fun vc wx => (∃ c : Bool, vc = .bool c ∧ Hid (c = decide (a < s ∧ s < mid))) ∧ w1 = wx)
 case first =>
  by_cases q1 : a < s
  ·have q1z : (a : Int) < (s : Int) := by omega
   by_cases q2 : s < mid
   ·have q2z : (s : Int) < (mid : Int) := by omega
    go_wp2_with fail
    go_meet
    exact ⟨⟨true, rfl, qH0 (decide_eq_true (show a < s ∧ s < mid from ⟨q1, q2⟩)).symm⟩, rfl⟩
   ·have q2z : ¬ (s : Int) < (mid : Int) := by omega
    go_wp2_with fail
    go_meet
    exact ⟨⟨false, rfl, qH0 (decide_eq_false (show ¬ (a < s ∧ s < mid) from fun h => q2 h.2)).symm⟩, rfl⟩
  ·have q1z : ¬ (a : Int) < (s : Int) := by omega
   go_wp2_with fail
   go_meet
   exact ⟨⟨false, rfl, qH0 (decide_eq_false (show ¬ (a < s ∧ s < mid) from fun h => q1 h.1)).symm⟩, rfl⟩
 case rest =>
 obtain ⟨⟨cc2, rfl, HCCcc2⟩, rfl⟩ := hcut
 go_upto_if 199 with (fail)
 go_cut [] (fun wx => ∃ d2 : Array α, Hid (Hlf enc k cf tg w blk off a mid d1 d2 wx))
 case first =>
  cases cc2
  ·have q : ¬ (a < s ∧ s < mid) := of_decide_eq_false HCCcc2.out.symm
   have HX' : Hid (Hlf enc k cf tg w blk off a mid d1 d1 w1) := qH0 ⟨permIn_refl d1 a mid, HTD.out.h2 q, HT.out.sw⟩
   clear q
   go_wp2_with fail
   go_meet
   exact ⟨d1, HX'⟩
  ·have q : a < s ∧ s < mid := of_decide_eq_true HCCcc2.out.symm
   have hr := IH.out a s mid d1 _ (by omega) HT.out.size HT.out.sw (HTD.out.h1 q.1 q.2)
   clear q
   go_wp2_with fail
   go_at_fn 209
   refine hr.mono ?_
   rintro e' w' ⟨rfl, d2, g1, g2, g3⟩
   go_wp2_with fail
   go_meet
   exact ⟨d2, qH0 ⟨g1, g2, HT.out.sw.trans g3⟩⟩
 case rest =>
 obtain ⟨d2, HD2⟩ := hcut
 rename World => w2
 go_upto_region 43 with (fail)
 go_cut [213] (fun vc wx => (∃ c : Bool, vc = .bool c ∧ Hid (c = decide (mid < e ∧ e < b))) ∧ w2 = wx)
 case first =>
  by_cases q1 : mid < e
  ·have q1z : (mid : Int) < (e : Int) := by omega
   by_cases q2 : e < b
   ·have q2z : (e : Int) < (b : Int) := by omega
    go_wp2_with fail
    go_meet
    exact ⟨⟨true, rfl, qH0 (decide_eq_true (show mid < e ∧ e < b from ⟨q1, q2⟩)).symm⟩, rfl⟩
   ·have q2z : ¬ (e : Int) < (b : Int) := by omega
    go_wp2_with fail
    go_meet
    exact ⟨⟨false, rfl, qH0 (decide_eq_false (show ¬ (mid < e ∧ e < b) from fun h => q2 h.2)).symm⟩, rfl⟩
  ·have q1z : ¬ (mid : Int) < (e : Int) := by omega
   go_wp2_with fail
   go_meet
   exact ⟨⟨false, rfl, qH0 (decide_eq_false (show ¬ (mid < e ∧ e < b) from fun h => q1 h.1)).symm⟩, rfl⟩
 case rest =>
 obtain ⟨⟨cc3, rfl, HCCcc3⟩, rfl⟩ := hcut
 have hsz2 : d2.size = d.size := HD2.out.perm.1.trans HT.out.size
 have HSZ2 := qH0 hsz2
 clear hsz2
 cases cc3
 ·have q : ¬ (mid < e ∧ e < b) := of_decide_eq_false HCCcc3.out.symm
  have hr2 : Stb.Rise cf tg mid b d2 := (HTD.out.h4 q).congr fun x g1 _ => HD2.out.perm.2.1 x (Or.inr g1)
  have HR2 := qH0 hr2
  clear q hr2
  go_wp2_with fail
  go_end0
  have ht := HT.out
  have hd := HD2.out
  have hts := ht.size
  refine ⟨rfl, d2, permIn_trans _ _ _ a b ht.perm (permIn_mono _ _ a mid a b (qN0) (by omega) (by omega) hd.perm), ?_, hd.sw⟩
  exact Stb.rise_both a mid b (by omega) (by omega) HTD.out.h5 hd.perm hd.rise (permIn_refl d2 mid b) HR2.out
 ·have q : mid < e ∧ e < b := of_decide_eq_true HCCcc3.out.symm
  have hr := IH.out mid e b d2 _ (by omega) HSZ2.out HD2.out.sw (qkn (HTD.out.h3 q.1 q.2) HD2.out.perm.1 (fun x g1 _ => HD2.out.perm.2.1 x (Or.inr g1)))
  clear q
  go_wp2_with fail
  go_at_fn 209
  refine hr.mono ?_
  rintro e' w' ⟨rfl, d3, g1, g2, g3⟩
  go_wp2_with fail
  go_end0
  have ht := HT.out
  have hd := HD2.out
  have hts := ht.size
  refine ⟨rfl, d3, permIn_trans _ _ _ a b ht.perm (permIn_trans _ _ _ a b (permIn_mono _ _ a mid a b (qN0) (by omega) (by omega) hd.perm) (permIn_mono _ _ mid b a b (by omega) (qN0) (by have := HSZ2.out; omega) g1)), ?_, hd.sw.trans g3⟩
  exact Stb.rise_both a mid b (by omega) (by omega) HTD.out.h5 hd.perm hd.rise g1 g2
end Go.Proofs.YtckammgnmgkieaaGreat
namespace Go.Proofs.YtckammgnmgkieaaGreat
set_option linter.unusedVariables false
set_option linter.unusedSimpArgs false
set_option maxRecDepth 1000000
set_option maxHeartbeats 16000000
set_option linter.unusedSectionVars false
open Go.RowKit Go.Shelf Go.Sort Go.Lib
variable {P : Program} {α : Type} [Inhabited α]
theorem qhZ {k : Nat} (L : SLay P k) (hF : P.funcs[209]? = some Tryz.f209) (hFr : P.funcs[216]? = some Tryz.f216) (hFs : P.funcs[217]? = some Tryz.f217)
 (es : ∀ args w, (callFunc 217 args).run P w = .ok (.enter 217 args) w) (er : ∀ args w, (callFunc 216 args).run P w = .ok (.enter 216 args) w) (em : ∀ args w, (callFunc 209 args).run P w = .ok (.enter 209 args) w)
 (enc : α → List Value) (hk : ∀ x, (enc x).length = k) (h1 : ∀ x, ∀ v ∈ enc x, v.oneCell' = true) (cf : α → α → Int) (tg : α → Nat) (hO : Stb.COrd cf) (g : Nat) (cb : Array Value)
 (blk off cap a m b : Nat) (hma : m ≠ a + 1) (hbm : b ≠ m + 1) (d : Array α) (w : World) (hcmp : CmpB P g cb enc cf w blk) (hH : HoldsK enc k w blk off d) (hblk : blk < w.heap.size) (hM : Stb.Mrg cf tg a m b d) (hsz : d.size < 4611686018427387904)
 (ih : ∀ (a' m' b' : Nat) (d' : Array α) (W : World), b' - a' < b - a → d'.size = d.size → SW enc k w blk off d' W → Stb.Mrg cf tg a' m' b' d' → Calls P 209 #[.slice (some ⟨blk, off, none⟩) d.size cap, .int .i64 a', .int .i64 m', .int .i64 b', .func (.func g) #[] cb] W (qb8 enc k cf tg W blk off d' a' b')) :
 Calls P 209 #[.slice (some ⟨blk, off, none⟩) d.size cap, .int .i64 a, .int .i64 m, .int .i64 b, .func (.func g) #[] cb] w (qb8 enc k cf tg w blk off d a b) := by
 have mixed := L.mixed; have t0 := L.t0; have a0 := L.a0; have z0 := L.z0; have v0 := L.v0; have t3 := L.t3; have a3 := L.a3; have z3 := L.z3; have v3 := L.v3; have t4 := L.t4; have a4 := L.a4; have z4 := L.z4; have v4 := L.v4; have t85 := L.t85; have a85 := L.a85; have z85 := L.z85; have v85 := L.v85; have t43 := L.t43; have a43 := L.a43; have z43 := L.z43; have v43 := L.v43; have t69 := L.t69; have a69 := L.a69; have z69 := L.z69; have v69 := L.v69; have aE := L.aE; have zE := L.zE
 have u43 := run_underlying L.t43
 have ham : a + 2 ≤ m := by have := hM.am; omega
 have hmb : m + 2 ≤ b := by have := hM.mb; omega
 have hb : b ≤ d.size := hM.bs
 have HM := qH0 hM
 have HC := qH0 hcmp
 have eg := hcmp.eg
 have HK := qH0 hk; have H1 := qH0 h1
 have HST : Hid (SW enc k w blk off d w) := qH0 (SW.refl hH hblk)
 have HR := qH0 (fun (s e : Nat) (W : World) (hW : SW enc k w blk off d W) (h1' : s < m) (h2 : m < e) (h3 : e ≤ d.size) => qiC L hFr hFs es enc hk h1 blk off cap s m e d (.func (.func g) #[] cb) W hW.row hW.lt' h1' h2 h3 (by omega))
 have IH := qH0 ih
 have c1 : ((m : Int) - (a : Int) == 1) = false := by simp; omega
 have c2 : ((b : Int) - (m : Int) == 1) = false := by simp; omega
 obtain ⟨mid, hmid⟩ : ∃ h : Nat, (a + b) / 2 = h := ⟨_, rfl⟩
 have hmidz : ((a : Int) + (b : Int)) / 2 = (mid : Int) := by omega
 obtain ⟨n, hn⟩ : ∃ h : Nat, mid + m = h := ⟨_, rfl⟩
 have hnz : (mid : Int) + (m : Int) = (n : Int) := by omega
 obtain ⟨pn, hpn⟩ : ∃ h : Nat, n - 1 = h := ⟨_, rfl⟩
 have hpnz : (n : Int) - 1 = (pn : Int) := by omega
 have k9 : pn + 1 ≤ n := by omega
 have k10 : n ≤ pn + 1 := by omega
 have k1 : a < mid := by omega
 have k2 : mid < b := by omega
 have k4 : n ≤ mid + b := by omega
 have HMID := qH0 hmid; have HN := qH0 hn
 have k5 : a + b ≤ 2 * mid + 1 := by omega
 have k6 : 2 * mid ≤ a + b := by omega
 have k7 : n ≤ mid + m := by omega
 have k8 : mid + m ≤ n := by omega
 clear hcmp hH hk h1 hblk hM hma hbm ih hmid hn hpn
 go_enter hF, Tryz.ntmps209
 go_upto_if 140 with (fail)
 go_cut [20, 21] (fun vs vr wx => (∃ s0 r0 : Nat, vs = .int .i64 s0 ∧ vr = .int .i64 r0 ∧ Hid (MidsAt a m b mid s0 r0)) ∧ w = wx)
 case first =>
  by_cases hc : mid < m
  ·have hcz : (mid : Int) < (m : Int) := by omega
   obtain ⟨s0, hs0⟩ : ∃ s0 : Nat, mid + m - b = s0 := ⟨_, rfl⟩
   have hs0z : (n : Int) - (b : Int) = (s0 : Int) := by omega
   have HX : Hid (MidsAt a m b mid s0 mid) := qH0 (Or.inl ⟨hc, hs0.symm, rfl⟩)
   clear hs0
   go_wp2_with fail
   go_meet
   exact ⟨⟨s0, mid, rfl, rfl, HX⟩, rfl⟩
  ·have hcz : ¬ (mid : Int) < (m : Int) := by omega
   have HX : Hid (MidsAt a m b mid a m) := qH0 (Or.inr ⟨by omega, rfl, rfl⟩)
   go_wp2_with fail
   go_meet
   exact ⟨⟨a, m, rfl, rfl, HX⟩, rfl⟩
 case rest =>
 obtain ⟨⟨s0, r0, rfl, rfl, HX⟩, rfl⟩ := hcut
 have hx := HX.out
 have x1 : a ≤ s0 := by rcases hx with ⟨q1, q2, q3⟩ | ⟨q1, q2, q3⟩ <;> omega
 have x2 : s0 ≤ r0 := by rcases hx with ⟨q1, q2, q3⟩ | ⟨q1, q2, q3⟩ <;> omega
 have x3 : r0 ≤ mid := by rcases hx with ⟨q1, q2, q3⟩ | ⟨q1, q2, q3⟩ <;> omega
 have x4 : r0 ≤ m := by rcases hx with ⟨q1, q2, q3⟩ | ⟨q1, q2, q3⟩ <;> omega
 have x5 : n ≤ s0 + b := by rcases hx with ⟨q1, q2, q3⟩ | ⟨q1, q2, q3⟩ <;> omega
 clear hx
 go_wp2
 go_loopw [20, 21] (fun vs vr wr => ∃ (s r : Nat), vs = .int .i64 s ∧ vr = .int .i64 r ∧ s0 ≤ s ∧ s ≤ r ∧ r ≤ r0 ∧ Hid (Mids cf n s0 r0 s r d) ∧ Hid (SW enc k w blk off d wr)) (fun vs vr _ => (intOf vr).toNat - (intOf vs).toNat)
 case atStart => exact ⟨s0, r0, rfl, rfl, qN0, x2, qN0, qH0 ⟨Or.inl rfl, Or.inl rfl⟩, HST⟩
 case round =>
  obtain ⟨s, r, rfl, rfl, hs, hsr, hr, HP, HW⟩ := hrel
  by_cases hlt : s < r
  ·have hltz : (s : Int) < (r : Int) := by omega
   obtain ⟨c, hc⟩ : ∃ h : Nat, (s + r) / 2 = h := ⟨_, rfl⟩
   have hcz : ((s : Int) + (r : Int)) / 2 = (c : Int) := by omega
   obtain ⟨y, hy⟩ : ∃ h : Nat, pn - c = h := ⟨_, rfl⟩
   have hyz : (pn : Int) - (c : Int) = (y : Int) := by omega
   have h1 : s ≤ c := by omega
   have h2 : c < r := by omega
   have h3 : (c : Int) < (d.size : Int) := by omega
   have h4 : (y : Int) < (d.size : Int) := by omega
   have hwy : IntKind.i64.wrap (y : Int) = (y : Int) := by rw [IntKind.wrap_i64]; omega
   have HY : Hid (n - (c + 1) = y ∧ n - c - 1 = y) := qH0 ⟨by omega, by omega⟩
   clear hc hy
   obtain ⟨xc, hxc⟩ : ∃ x, d[c]! = x := ⟨_, rfl⟩
   obtain ⟨xy, hxy⟩ : ∃ x, d[y]! = x := ⟨_, rfl⟩
   have lc : ∀ p : WIn (fun W => SW enc k w blk off d W), Sem.run P (loadCellsFrom ⟨blk, off + c * k, none⟩ 0 k #[]) p.w = .ok (enc xc).toArray p.w := fun p => by
    rw [← hxc]; exact p.ok.load P HK.out c (by omega)
   have ly : ∀ p : WIn (fun W => SW enc k w blk off d W), Sem.run P (loadCellsFrom ⟨blk, off + y * k, none⟩ 0 k #[]) p.w = .ok (enc xy).toArray p.w := fun p => by
    rw [← hxy]; exact p.ok.load P HK.out y (by omega)
   have hne : Nonempty (WIn (fun W => SW enc k w blk off d W)) := ⟨⟨_, HW.out.drew⟩⟩
   have hcg := fun p : WIn (fun W => SW enc k w blk off d W) => HC.out.cls d p xy xc
   have HXC := qH0 hxc; have HXY := qH0 hxy
   clear hxc hxy
   by_cases hlv : cf xy xc < 0
   ·have HN' : Hid (Mids cf n s0 r0 s c d) := qH0 ⟨HP.out.lo, Or.inr (by rw [HY.out.2, HXC.out, HXY.out]; exact hlv)⟩
    go_wp2_with fail
    refine qaf (fun W => SW enc k w blk off d W) mixed (by kernel_rfl) HW.out.drew ?_
    repeat (go_big_quiet_step (first | (go_at_fn g; exact hcg _)))
    refine wpQuiet_nil ?_
    rintro _ ⟨p, rfl⟩
    go_wp2
    go_roundw
    case measure => simp [intOf]; omega
    case rel => exact ⟨s, c, rfl, rfl, by omega, by omega, by omega, HN', qH0 p.ok⟩
   ·have hlb : (!decide (cf xy xc < 0)) = true := by simp; omega
    have HN' : Hid (Mids cf n s0 r0 (c + 1) r d) := qH0 ⟨Or.inr (by rw [Nat.add_sub_cancel, HY.out.1, HXC.out, HXY.out]; exact hlv), HP.out.hi⟩
    go_wp2_with fail
    refine qaf (fun W => SW enc k w blk off d W) mixed (by kernel_rfl) HW.out.drew ?_
    repeat (go_big_quiet_step (first | (go_at_fn g; exact hcg _)))
    refine wpQuiet_nil ?_
    rintro _ ⟨p, rfl⟩
    go_wp2
    go_roundw
    case measure => simp [intOf]; omega
    case rel => exact ⟨c + 1, r, by go_num, rfl, by omega, by omega, hr, HN', qH0 p.ok⟩
  ·obtain rfl : s = r := by omega
   rename World => wo
   obtain ⟨e, he⟩ : ∃ h : Nat, n - s = h := ⟨_, rfl⟩
   have hez : (n : Int) - (s : Int) = (e : Int) := by omega
   have y1 : e + s ≤ n := by omega
   have y2 : n ≤ e + s := by omega
   have HCP : Hid (Stb.Cutp cf a m b mid s d) := by
    have hp := HP.out
    have hx := HX.out
    have e1 : mid + m - s = n - s := by omega
    refine qH0 ⟨by omega, by omega, by omega, by omega, ?_, ?_⟩
    ·rcases hp.lo with q | q
     ·rcases hx with ⟨q1, q2, q3⟩ | ⟨q1, q2, q3⟩
      ·right; left; omega
      ·left; omega
     ·right; right; rw [e1]; exact q
    ·rcases hp.hi with q | q
     ·rcases hx with ⟨q1, q2, q3⟩ | ⟨q1, q2, q3⟩
      ·right; left; omega
      ·left; omega
     ·right; right; rw [e1]; exact q
   clear he hlt
   go_upto_region 39 with (fail)
   go_cut [185] (fun vc wx => (∃ c : Bool, vc = .bool c ∧ Hid (c = decide (s < m ∧ m < e))) ∧ wo = wx)
   case first =>
    by_cases q1 : s < m
    ·have q1z : (s : Int) < (m : Int) := by omega
     by_cases q2 : m < e
     ·have q2z : (m : Int) < (e : Int) := by omega
      go_wp2_with fail
      go_meet
      exact ⟨⟨true, rfl, qH0 (decide_eq_true (show s < m ∧ m < e from ⟨q1, q2⟩)).symm⟩, rfl⟩
     ·have q2z : ¬ (m : Int) < (e : Int) := by omega
      go_wp2_with fail
      go_meet
      exact ⟨⟨false, rfl, qH0 (decide_eq_false (show ¬ (s < m ∧ m < e) from fun h => q2 h.2)).symm⟩, rfl⟩
    ·have q1z : ¬ (s : Int) < (m : Int) := by omega
     go_wp2_with fail
     go_meet
     exact ⟨⟨false, rfl, qH0 (decide_eq_false (show ¬ (s < m ∧ m < e) from fun h => q1 h.1)).symm⟩, rfl⟩
   case rest =>
   obtain ⟨⟨cc1, rfl, HCCcc1⟩, rfl⟩ := hcut
   go_upto_if 185 with (fail)
   have hms : s ≤ m := by omega
   have hme : m ≤ e := by omega
   have heb : e ≤ b := HCP.out.e |> fun h => by omega
   go_cut [] (fun wx => ∃ d1 : Array α, Hid (Trn enc k w blk off d a b m s e d1 wx))
   case first =>
    cases cc1
    ·have q : ¬ (s < m ∧ m < e) := of_decide_eq_false HCCcc1.out.symm
     have HX' : Hid (Trn enc k w blk off d a b m s e d wo) := by
      refine qH0 ⟨rfl, fun x hx => ?_, permIn_refl d a b, HW.out⟩
      by_cases h : s = m
      ·subst h; rw [Stb.rot_left]
      ·have : e = m := by omega
       subst this; rw [Stb.rot_right]
     clear q
     go_wp2_with fail
     go_meet
     exact ⟨d, HX'⟩
    ·have q : s < m ∧ m < e := of_decide_eq_true HCCcc1.out.symm
     have hr := HR.out s e _ HW.out q.1 q.2 (by omega)
     clear q
     go_wp2_with fail
     go_at_fn 216
     refine hr.mono ?_
     rintro e' w' ⟨rfl, d1, g1, g2, g3, g4⟩
     go_wp2_with fail
     go_meet
     exact ⟨d1, qH0 ⟨g1, g2, permIn_mono _ _ s e a b (by omega) heb hb g3, HW.out.trans g4⟩⟩
   case rest =>
   obtain ⟨d1, HT⟩ := hcut
   rename World => w1
   have HTD : Hid (Trd cf tg a s mid e b d1) := by
    have ht := HT.out
    have hE : mid + m - s = e := by omega
    have t := HM.out.turned hO HCP.out k1 k2 ht.size (by rw [hE]; exact ht.at_)
    rw [hE] at t
    exact qH0 ⟨t.1, t.2.1, t.2.2.1, t.2.2.2.1, t.2.2.2.2⟩
   rename Act → World → Prop => K0
   rename ∀ (a_1 : Act) (w_1 : World), _ → K0 a_1 w_1 => hK
   exact hK _ _ (qhg L em enc cf tg g cb blk off cap a m b mid s e d d1 w w1 k1 k2 hb hsz (by omega) (by omega) HT HTD IH _ _ _ _ _ _ _ _ _ _ _ _ _ _ _ _ _ _ _ _ _ _ _ _ _ _ _ _ _ _ _ _ _ _ _ _ _ _ _ _ _ _ _ _ _ _ _ _ _ _ _ _ _ _ _ _ _ _ _ _ _ _ _ _ _ _ _ _ _ _ _ _ _ _ _ _ _ _ _ _ _ _ _ _ _ _ _ _ _ _ _ _ _ _ _ _ _ _ _ _ _ _ _ _ _ _ _ _ _ _ _ _ _ _ _ _ _ _ _ _ _ _ _ _ _ _ _ _ _ _ _ _ _ _ _ _ _ _ _ _ _ _ _ _ _ _ _ _ _ _ _ _ _ _ _ _ _ _ _ _ _ _ _ _ _ _ _ _ _ _ _ _ _ _ _ _ _ _ _ _ _ _ _ _ _ _ _ _ _ _ _ _ _ _ _ _ _ _ _ _ _ _ _ _ _ _ _ _ _ _ _ _ )
end Go.Proofs.YtckammgnmgkieaaGreat
namespace Go.Proofs.YtckammgnmgkieaaGreat
set_option linter.unusedVariables false
set_option linter.unusedSimpArgs false
set_option maxRecDepth 1000000
set_option maxHeartbeats 8000000
set_option linter.unusedSectionVars false
open Go.RowKit Go.Shelf Go.Sort Go.Lib
variable {P : Program} {α : Type} [Inhabited α]
structure SFun (P : Program) : Prop where
 fs : P.funcs[217]? = some Tryz.f217
 fr : P.funcs[216]? = some Tryz.f216
 fi : P.funcs[208]? = some Tryz.f208
 fm : P.funcs[209]? = some Tryz.f209
 ft : P.funcs[184]? = some Tryz.f184
 es : ∀ args w, (callFunc 217 args).run P w = .ok (.enter 217 args) w
 er : ∀ args w, (callFunc 216 args).run P w = .ok (.enter 216 args) w
 ei : ∀ args w, (callFunc 208 args).run P w = .ok (.enter 208 args) w
 em : ∀ args w, (callFunc 209 args).run P w = .ok (.enter 209 args) w
theorem qhQ {k : Nat} (L : SLay P k) (F : SFun P) (enc : α → List Value) (hk : ∀ x, (enc x).length = k) (h1 : ∀ x, ∀ v ∈ enc x, v.oneCell' = true) (cf : α → α → Int) (tg : α → Nat) (hO : Stb.COrd cf) (g : Nat) (cb : Array Value)
 (blk off cap N : Nat) (hN : N < 4611686018427387904) (w : World) (hcmp : CmpB P g cb enc cf w blk) : ∀ (n a m b : Nat) (d : Array α) (W : World), b - a ≤ n → d.size = N → SW enc k w blk off d W → Stb.Mrg cf tg a m b d →
 Calls P 209 #[.slice (some ⟨blk, off, none⟩) N cap, .int .i64 a, .int .i64 m, .int .i64 b, .func (.func g) #[] cb] W (qb8 enc k cf tg W blk off d a b)
 | 0, a, m, b, d, W, hn, _, _, hM => by have := hM.am; have := hM.mb; omega
 | n + 1, a, m, b, d, W, hn, hs, hW, hM => by
  subst hs
  have hc := hcmp.later hW.rest
  by_cases hma : m = a + 1
  ·exact qhs L F.fm enc hk h1 cf tg hO g cb blk off cap a m b hma d W hc hW.row hW.lt' hM hN
  by_cases hbm : b = m + 1
  ·exact qg8 L F.fm enc hk h1 cf tg hO g cb blk off cap a m b hma hbm d W hc hW.row hW.lt' hM hN
  exact qhZ L F.fm F.fr F.fs F.es F.er F.em enc hk h1 cf tg hO g cb blk off cap a m b hma hbm d W hc hW.row hW.lt' hM hN
   (fun a' m' b' d' W' hlt hs' hW' hM' => qhQ L F enc hk h1 cf tg hO g cb blk off cap d.size hN w hcmp n a' m' b' d' W' (by omega) hs' (hW.trans hW') hM')
def qm8 (enc : α → List Value) (k : Nat) (cf : α → α → Int) (tg : α → Nat) (w : World) (blk off : Nat) (d : Array α) (e : Ending) (w' : World) : Prop :=
 e = .returned (.tuple #[]) ∧ ∃ d' : Array α, PermIn 0 d.size d d' ∧ Stb.Rise cf tg 0 d.size d' ∧ SW enc k w blk off d' w'
structure StbAt (enc : α → List Value) (k : Nat) (w : World) (blk off : Nat) (d : Array α) (Q : Array α → Prop) (dk : Array α) (W : World) : Prop where
 perm : PermIn 0 d.size d dk
 sw : SW enc k w blk off dk W
 q : Q dk
theorem StbAt.next {enc : α → List Value} {k : Nat} {w : World} {blk off : Nat} {d : Array α} {Q Q' : Array α → Prop} {dk d' : Array α} {W W' : World} (h : StbAt enc k w blk off d Q dk W) {a b : Nat} (hb : b ≤ d.size) (hp : PermIn a b dk d') (hw : SW enc k W blk off d' W') (hq : Q' d') : StbAt enc k w blk off d Q' d' W' :=
 ⟨permIn_trans _ _ _ 0 d.size h.perm (permIn_mono _ _ a b 0 d.size (Nat.zero_le _) hb (by rw [h.perm.1]; omega) hp), h.sw.trans hw, hq⟩
theorem qix {k : Nat} (L : SLay P k) (F : SFun P) (enc : α → List Value) (hk : ∀ x, (enc x).length = k) (h1 : ∀ x, ∀ v ∈ enc x, v.oneCell' = true) (cf : α → α → Int) (tg : α → Nat) (hO : Stb.COrd cf) (g : Nat) (cb : Array Value)
 (blk off cap : Nat) (d : Array α) (w : World) (hcmp : CmpB P g cb enc cf w blk) (hH : HoldsK enc k w blk off d) (hblk : blk < w.heap.size) (ht : ∀ i, i < d.size → tg d[i]! = i) (hsz : d.size < 4611686018427387904) :
 Calls P 184 #[.slice (some ⟨blk, off, none⟩) d.size cap, .int .i64 d.size, .func (.func g) #[] cb] w (qm8 enc k cf tg w blk off d) := by
 have mixed := L.mixed; have t0 := L.t0; have a0 := L.a0; have z0 := L.z0; have v0 := L.v0; have t3 := L.t3; have a3 := L.a3; have z3 := L.z3; have v3 := L.v3; have t4 := L.t4; have a4 := L.a4; have z4 := L.z4; have v4 := L.v4; have t85 := L.t85; have a85 := L.a85; have z85 := L.z85; have v85 := L.v85; have t43 := L.t43; have a43 := L.a43; have z43 := L.z43; have v43 := L.v43; have t69 := L.t69; have a69 := L.a69; have z69 := L.z69; have v69 := L.v69; have aE := L.aE; have zE := L.zE
 have u43 := run_underlying L.t43
 obtain ⟨n, hn⟩ : ∃ n, d.size = n := ⟨_, rfl⟩
 have HNN := qH0 hn
 have hF := F.ft
 have ei := F.ei
 have em := F.em
 have HI := qH0 (fun (dk : Array α) (W : World) (a b : Nat) (hs : dk.size = n) (hW : SW enc k w blk off dk W) (hab : a ≤ b) (hb : b ≤ n) =>
  (show Calls P 208 #[.slice (some ⟨blk, off, none⟩) n cap, .int .i64 a, .int .i64 b, .func (.func g) #[] cb] W (qjm enc k cf W blk off dk a b) from hs ▸ qgg L F.fi enc hk h1 cf g cb blk off cap a b dk W (hcmp.later hW.rest) hW.row hW.lt' hab (by omega) (by omega)))
 have HM := qH0 (fun (dk : Array α) (W : World) (a m b : Nat) (hs : dk.size = n) (hW : SW enc k w blk off dk W) (hM : Stb.Mrg cf tg a m b dk) => qhQ L F enc hk h1 cf tg hO g cb blk off cap n (by omega) w hcmp (b - a) a m b dk W (qN0) hs hW hM)
 have HS0 : Hid (StbAt enc k w blk off d (Stb.Blk0 cf tg 20 0) d w) := qH0 ⟨permIn_refl d 0 _, SW.refl hH hblk, Stb.Blk0.start ht⟩
 rw [hn] at hsz ⊢
 clear hcmp hH hblk ht hk h1 hn F
 go_enter hF, Tryz.ntmps184
 go_wp2
 go_loopw [7, 8] (fun va vb wr => ∃ (A B : Nat) (dk : Array α), va = .int .i64 A ∧ vb = .int .i64 B ∧ A ≤ n ∧ B ≤ A + 20 ∧ A + 20 ≤ B ∧ Hid (∃ r, A = r * 20) ∧ Hid (StbAt enc k w blk off d (Stb.Blk0 cf tg 20 A) dk wr)) (fun va _ _ => n - (intOf va).toNat)
 case atStart => exact ⟨0, 20, d, rfl, rfl, Nat.zero_le _, by omega, by omega, qH0 ⟨0, by omega⟩, HS0⟩
 case round =>
  obtain ⟨A, B, dk, rfl, rfl, hA, hB1, hB2, HR, HS⟩ := hrel
  have hds : dk.size = n := by rw [HS.out.perm.1]; exact HNN.out
  have HDS := qH0 hds
  clear hds
  by_cases hlt : B ≤ n
  ·have hltz : (B : Int) ≤ (n : Int) := by omega
   have hc := HI.out dk _ A B HDS.out HS.out.sw (by omega) hlt
   go_wp2_with (go_at_fn 208; refine hc.mono ?_; rintro e w' ⟨rfl, g1⟩)
   have HN : Hid (StbAt enc k w blk off d (Stb.Blk0 cf tg 20 B) (insertionSort (Stb.lb cf) dk A B) w') := by
    have hs := HS.out
    have hd := HDS.out
    have hnn := HNN.out
    have hi := Stb.insertion_rise (tg := tg) hO dk A B (by omega) (by omega) (hs.q.tags (by omega))
    obtain ⟨r, rfl⟩ := HR.out
    have hB : B = r * 20 + 20 := by omega
    exact qH0 (hs.next (by omega) hi.1 g1 (hs.q.next (by omega) (by omega) (by omega) hi.1 hi.2))
   have HR' : Hid (∃ r, B = r * 20) := by
    obtain ⟨r, rfl⟩ := HR.out
    exact qH0 ⟨r + 1, by omega⟩
   clear g1 hc
   go_roundw
   case measure => simp [intOf]; omega
   case rel => exact ⟨B, B + 20, _, rfl, by go_num, hlt, qN0, qN0, HR', HN⟩
  ·have hltz : ¬ (B : Int) ≤ (n : Int) := by omega
   have hc := HI.out dk _ A n HDS.out HS.out.sw hA (qN0)
   go_wp2_with (go_at_fn 208; refine hc.mono ?_; rintro e w' ⟨rfl, g1⟩)
   have HN : Hid (StbAt enc k w blk off d (Stb.Blk cf tg 20) (insertionSort (Stb.lb cf) dk A n) w') := by
    have hs := HS.out
    have hd := HDS.out
    have hnn := HNN.out
    have hi := Stb.insertion_rise (tg := tg) hO dk A n hA (by omega) (hs.q.tags (by omega))
    obtain ⟨r, rfl⟩ := HR.out
    have hw := hs.q.next (by omega) hA (by omega) hi.1 hi.2
    have he : (insertionSort (Stb.lb cf) dk (r * 20) n).size = n := hi.1.1.trans hd
    have hw' : Stb.Blk0 cf tg 20 (insertionSort (Stb.lb cf) dk (r * 20) n).size (insertionSort (Stb.lb cf) dk (r * 20) n) := by rw [he]; exact hw
    exact qH0 (hs.next (by omega) hi.1 g1 hw'.whole)
   generalize insertionSort (Stb.lb cf) dk A n = dj at HN
   clear g1 hc HDS HS HR hlt hltz hB1 hB2 hA
   rename World => wo
   go_loopw [6] (fun vs wr => ∃ (s : Nat) (dk : Array α), vs = .int .i64 s ∧ 20 ≤ s ∧ s < 9223372036854775807 ∧ Hid (StbAt enc k w blk off d (Stb.Blk cf tg s) dk wr)) (fun vs _ => n - (intOf vs).toNat)
   case atStart => exact ⟨20, dj, rfl, qN0, by omega, HN⟩
   case round =>
    obtain ⟨s, dk, rfl, hs1, hs2, HS⟩ := hrel
    by_cases hlt : s < n
    ·have hltz : (s : Int) < (n : Int) := by omega
     obtain ⟨t, ht⟩ : ∃ t, 2 * s = t := ⟨_, rfl⟩
     have htz : 2 * (s : Int) = (t : Int) := by omega
     have htz' : (s : Int) * 2 = (t : Int) := by omega
     have htb : (t : Int) ≤ 9223372036854775806 := by omega
     have htp : s < t := by omega
     have HTT := qH0 ht
     have HS2 : Hid (StbAt enc k w blk off d (Stb.Blk2 cf tg s 0) dk wr) := by
      have hs := HS.out
      exact qH0 ⟨hs.perm, hs.sw, Stb.Blk2.start hs.q⟩
     clear ht
     rename World => w1
     go_wp2
     go_loopw [7, 8] (fun va vb wr => ∃ (A B : Nat) (dk : Array α), va = .int .i64 A ∧ vb = .int .i64 B ∧ A ≤ n ∧ B ≤ A + t ∧ A + t ≤ B ∧ Hid (∃ r, A = r * (2 * s)) ∧ Hid (StbAt enc k w blk off d (Stb.Blk2 cf tg s A) dk wr)) (fun va _ _ => n - (intOf va).toNat)
     case atStart => exact ⟨0, t, dk, rfl, rfl, Nat.zero_le _, by omega, by omega, qH0 ⟨0, by omega⟩, HS2⟩
     case round =>
      obtain ⟨A, B, dl, rfl, rfl, hA, hB1, hB2, HR, HL⟩ := hrel
      have hds : dl.size = n := by rw [HL.out.perm.1]; exact HNN.out
      have HDS := qH0 hds
      clear hds
      have hAsz : ((A + s : Nat) : Int) = (A : Int) + (s : Int) := by omega
      have HAS := qH0 hAsz
      clear hAsz
      by_cases hBn : B ≤ n
      ·have hBnz : (B : Int) ≤ (n : Int) := by omega
       have hM : Stb.Mrg cf tg A (A + s) B dl := by
        have hl := HL.out
        have hd := HDS.out
        have ht := HTT.out
        obtain ⟨r, rfl⟩ := HR.out
        exact hl.q.mrg (by omega) (by omega) (by omega) (by omega)
       have hc := HM.out dl _ A (A + s) B HDS.out HL.out.sw hM
       rw [HAS.out] at hc
       clear hM
       go_wp2_with (go_at_fn 209; refine hc.mono ?_; rintro e w' ⟨rfl, dm, g1, g2, g3⟩)
       have HN2 : Hid (StbAt enc k w blk off d (Stb.Blk2 cf tg s B) dm w') := by
        have hl := HL.out
        have hd := HDS.out
        have ht := HTT.out
        have hnn := HNN.out
        obtain ⟨r, rfl⟩ := HR.out
        exact qH0 (hl.next (by omega) g1 g3 (hl.q.next (by omega) (by omega) (by omega) (Or.inl (by omega)) g1 g2))
       have HR' : Hid (∃ r, B = r * (2 * s)) := by
        have ht := HTT.out
        obtain ⟨r, rfl⟩ := HR.out
        exact qH0 ⟨r + 1, by rw [Nat.succ_mul]; omega⟩
       clear g1 g2 g3 hc
       go_roundw
       case measure => simp [intOf]; omega
       case rel => exact ⟨B, B + t, dm, rfl, by go_num, hBn, qN0, qN0, HR', HN2⟩
      ·have hBnz : ¬ (B : Int) ≤ (n : Int) := by omega
       by_cases hm : A + s < n
       ·have hmz : (A : Int) + (s : Int) < (n : Int) := by omega
        have hM : Stb.Mrg cf tg A (A + s) n dl := by
         have hl := HL.out
         have hd := HDS.out
         have ht := HTT.out
         obtain ⟨r, rfl⟩ := HR.out
         exact hl.q.mrg (by omega) (by omega) (by omega) (by omega)
        have hc := HM.out dl _ A (A + s) n HDS.out HL.out.sw hM
        rw [HAS.out] at hc
        clear hM
        go_wp2_with (go_at_fn 209; refine hc.mono ?_; rintro e w' ⟨rfl, dm, g1, g2, g3⟩)
        have HN2 : Hid (StbAt enc k w blk off d (Stb.Blk cf tg t) dm w') := by
         have hl := HL.out
         have hd := HDS.out
         have ht := HTT.out
         have hnn := HNN.out
         obtain ⟨r, rfl⟩ := HR.out
         have hw := hl.q.next (by omega) hA (by omega) (Or.inr hd.symm) g1 g2
         rw [← ht]
         exact qH0 (hl.next (by omega) g1 g3 (hw.whole (by rw [g1.1]; omega)))
        clear g1 g2 g3 hc
        go_roundw
        case measure => simp [intOf]; omega
        case rel => exact ⟨t, dm, rfl, by omega, by omega, HN2⟩
       ·have hmz : ¬ (A : Int) + (s : Int) < (n : Int) := by omega
        have HN2 : Hid (StbAt enc k w blk off d (Stb.Blk cf tg t) dl wr) := by
         have hl := HL.out
         have hd := HDS.out
         have ht := HTT.out
         have hnn := HNN.out
         obtain ⟨r, rfl⟩ := HR.out
         have hr : Stb.Rise cf tg (r * (2 * s)) n dl := by have := hl.q.short (by omega); rwa [hd] at this
         have hw := hl.q.next (d' := dl) (by omega) hA (by omega) (Or.inr hd.symm) (permIn_refl dl _ _) hr
         rw [← ht]
         exact qH0 ⟨hl.perm, hl.sw, hw.whole (by omega)⟩
        go_wp2
        go_roundw
        case measure => simp [intOf]; omega
        case rel => exact ⟨t, dl, rfl, by omega, by omega, HN2⟩
    ·have hltz : ¬ (s : Int) < (n : Int) := by omega
     go_wp2
     go_end0
     have hs := HS.out
     have hnn := HNN.out
     have hd : dk.size = n := by rw [hs.perm.1]; exact hnn
     have hr := hs.q.rise (by omega)
     rw [hd] at hr
     exact ⟨rfl, dk, hs.perm, by rw [hnn]; exact hr, hs.sw⟩
end Go.Proofs.YtckammgnmgkieaaGreat
namespace Go.Proofs.YtckammgnmgkieaaGreat
set_option linter.unusedVariables false
set_option linter.unusedSimpArgs false
set_option maxRecDepth 20000
set_option maxHeartbeats 2000000
open Go.RowKit Go.Shelf
def SlK (W : World) (v : Value) (css : List (List Value)) : Prop :=
 ∃ a c, v = .slice a css.length c ∧ css.length ≤ c ∧ (a = none → c = 0) ∧ (css = [] ∨ ∃ b off, a = some ⟨b, off, none⟩ ∧ b < W.heap.size ∧ ∀ j u, css.flatten[j]? = some u → W.cell? ⟨b, off + j, none⟩ = some u)
theorem SlK.below {W W' : World} {v : Value} {css : List (List Value)} (h : SlK W v css) (hb : Below W.heap.size W W') : SlK W' v css := by
 obtain ⟨a, c, e, h1, h2, h⟩ := h
 refine ⟨a, c, e, h1, h2, ?_⟩
 rcases h with h | ⟨b, off, ea, hlt, hc⟩
 ·exact .inl h
 ·exact .inr ⟨b, off, ea, Nat.lt_of_lt_of_le hlt hb.size, fun j u hj => (hb.cell (p := ⟨b, off + j, none⟩) hlt).trans (hc j u hj)⟩
theorem SlK.nil (W : World) : SlK W (.slice none 0 0) [] := ⟨none, 0, rfl, qN0, fun _ => rfl, .inl rfl⟩
theorem qf1 {W : World} {v : Value} {xs : List Value} (h : SlAt W v xs) : SlK W v (xs.map fun x => [x]) := by
 obtain ⟨a, c, e, h1, h2, h⟩ := h
 refine ⟨a, c, by rw [List.length_map]; exact e, by rw [List.length_map]; exact h1, h2, ?_⟩
 have hf : ∀ xs : List Value, (xs.map fun x => [x]).flatten = xs := fun xs => by
  induction xs with
  | nil => rfl
  | cons x r ih => rw [List.map_cons, List.flatten_cons, ih]; rfl
 rcases h with h | ⟨b, off, ea, hlt, hc⟩
 ·subst h; exact .inl rfl
 ·refine .inr ⟨b, off, ea, hlt, fun j u hj => ?_⟩
  rw [hf] at hj
  obtain ⟨hj1, hj2⟩ := List.getElem?_eq_some_iff.1 hj
  rw [← hj2]; exact hc j hj1
abbrev OwnC (k : Nat) (T : TypeId) (W : World) (base : Nat) (v : Value) (css : List (List Value)) : Prop := OwnK k T (fun cs : List Value => cs) W base v css
theorem qbQ (css : List (List Value)) : css.flatMap (fun cs => cs) = css.flatten := by simp [List.flatMap]
theorem qbM {k : Nat} : ∀ (css : List (List Value)), (∀ cs ∈ css, cs.length = k) → css.flatten.length = css.length * k
 | [], _ => by simp
 | c :: r, h => by
  rw [List.flatten_cons, List.length_append, h c (by simp), qbM r (fun x hx => h x (by simp [hx])), List.length_cons, Nat.succ_mul]; omega
theorem SlK.of_own {k : Nat} {T : TypeId} {W : World} {base : Nat} {v : Value} {css : List (List Value)} (h : OwnC k T W base v css) (hk : ∀ cs ∈ css, cs.length = k) : SlK W v css := by
 rcases h.2 with ⟨rfl, h0⟩ | ⟨g, cap, cur, rfl, hb, hg, hc, hm, hsz, htk⟩
 ·obtain rfl := List.eq_nil_of_length_eq_zero h0
  exact SlK.nil W
 ·refine ⟨_, _, rfl, hc, (fun e => by cases e), .inr ⟨g, 0, rfl, (Array.getElem?_eq_some_iff.1 hg).1, fun j u hj => ?_⟩⟩
  have hl := qbM css hk
  have hj' : j < css.length * k := by rw [← hl]; exact (List.getElem?_eq_some_iff.1 hj).1
  have h3 : cur.toList[j]? = some u := by
   have : (cur.toList.take (css.length * k))[j]? = some u := by rw [htk, qbQ]; exact hj
   rw [List.getElem?_take, if_pos hj'] at this
   exact this
  simp only [World.cell?, hg, Nat.zero_add]
  simpa using h3
theorem qaN {S T : TypeId} {k bytes : Nat} {ops : Array Oper} {rest : List Oper} {o : Oper} {a : Act} {Q : Exit → Act → World → Prop} (W : World) (hgd : o.guard = none) (s x : Operand) (hE : ElemK k T S bytes) (hk0 : 0 < k)
 (ho : o.op = .call { callee := .builtin .append, args := #[s, x], argTypes := #[S, S] })
 (base : Nat) (v : Value) (xs : List (List Value)) (hs : a.eval s = v) (hown : OwnC k T W base v xs)
 (src : Value) (ys : List (List Value)) (hx : a.eval x = src) (hsrc : SlK W src ys) (hyk : ∀ cs ∈ ys, cs.length = k) (hy1 : ∀ cs ∈ ys, ∀ u ∈ cs, u.oneCell' = true)
 (hbase : base ≤ W.heap.size) (hk : xs.length + ys.length ≤ maxLen) (hk2 : (xs.length + ys.length) * bytes ≤ 140737488355328)
 (h : ∀ v' w', OwnC k T w' base v' (xs ++ ys) → W.grownBy w' v.ownBlock → wpList Tryz.prog ops Q rest (a.put o.dst v') w') :
 wpList Tryz.prog ops Q (o :: rest) a W := by
 obtain ⟨ht, i, z, hi, hz, hz1, hz2, hzc⟩ := hE
 obtain ⟨a0, c0, rfl, h1, h2, h3⟩ := hsrc
 have hlen := qbM ys hyk
 cases a0 with
 | none =>
  have e3 := h2 rfl
  subst e3
  have e4 : ys = [] := List.eq_nil_of_length_eq_zero (by omega)
  subst e4
  refine wpList_append_own_none hgd s x S ho base _ i k ht hi v _ _ hs hown hx ?_
  exact h v W (by rw [List.append_nil]; exact hown) ⟨rfl, rfl, rfl, qN0, fun _ _ _ => rfl⟩
 | some ad =>
  have hcell : ∀ j u, ys.flatten[j]? = some u → W.cell? (ad.add j) = some u := by
   intro j u hj
   rcases h3 with h3 | ⟨b, off, ea, _, hc⟩
   ·subst h3; simp at hj
   ·cases ea; rw [Addr.add_lit]; exact hc j u hj
  refine wpList_append_own _ hgd s x S ho base _ i z k bytes ht hi hz hz1 hz2 hzc hk0 v xs.length (xs.flatMap fun cs => cs) hs hown ad ys.length c0 ys.flatten hx hlen hcell (by intro u hu; obtain ⟨y, hy, hu⟩ := List.mem_flatten.1 hu; exact hy1 y hy u hu) hk hk2 hbase ?_
  intro v' w' g1 g2 _
  refine h v' w' ?_ g2
  unfold OwnC OwnK
  rw [List.length_append, List.flatMap_append, qbQ ys]
  exact g1
theorem qaB (k : Nat) (T : TypeId) (w : World) : OwnC k T (w.alloc (.cells #[] T)) w.heap.size (.slice (some ⟨w.heap.size, 0, none⟩) 0 0) [] := World.ownsRow_made w #[] 0 (qN0) (Nat.zero_le _) (by simp)
theorem qdA : ElemK 7 103 22 136 := ⟨Tryz.underlying22, _, _, rfl, rfl, rfl, rfl, rfl⟩
theorem qld (v : Value) (css : List (List Value)) (w : World) (hA : SlK w v css) (hk : ∀ cs ∈ css, cs.length = 7) (h1 : ∀ cs ∈ css, ∀ u ∈ cs, u.oneCell' = true) (hl : css.length ≤ 1000000000000) :
 Calls Tryz.prog 150 #[v] w fun e w' => ∃ v', e = .returned v' ∧ OwnC 7 103 w' w.heap.size v' css ∧ Below w.heap.size w w' := by
 obtain ⟨a, c, rfl, hc1, hc2, hx⟩ := id hA
 cases a with
 | none =>
  have hnil : css = [] := List.eq_nil_of_length_eq_zero (by have := hc2 rfl; omega)
  subst hnil
  obtain rfl := hc2 rfl
  clear hc2 hx
  have q := fun w => Lib.run_eql_slice_nil (P := Tryz.prog) w 22 _ none 0 0 0 0 Tryz.underlying22
  go_enter Tryz.func150, Tryz.ntmps150
  go_wp2
  go_ret
  exact ⟨_, rfl, OwnK.nil _ _, qL0⟩
 | some ad =>
  have hlit := qaB 7 103 w
  have q := fun w => Lib.run_eql_slice_nil (P := Tryz.prog) w 22 _ (some ad) css.length c 0 0 Tryz.underlying22
  go_enter Tryz.func150, Tryz.ntmps150
  go_wp2_with (at_builtin; refine qaN (w.alloc (.cells #[] 103)) rfl (.tmp 5) (.tmp 6) qdA (by decide) rfl w.heap.size _ [] rfl hlit _ css rfl (hA.below ((Below.refl _ w).alloc (qN0) _)) hk h1 (by simp) (by unfold maxLen; simp; omega) (by simp; omega) ?_; intro v' w' hown' hg')
  go_ret
  exact ⟨v', rfl, hown', ((Below.refl _ w).alloc (qN0) _).grown hg' (by simp) hlit.base_le⟩
theorem qlZ : ElemK 1 35 98 4 := ⟨Tryz.underlying98, _, _, rfl, rfl, rfl, rfl, rfl⟩
theorem qkE (v : Value) (css : List (List Value)) (w : World) (hA : SlK w v css) (hk : ∀ cs ∈ css, cs.length = 1) (h1 : ∀ cs ∈ css, ∀ u ∈ cs, u.oneCell' = true) (hl : css.length ≤ 1000000000000) :
 Calls Tryz.prog 152 #[v] w fun e w' => ∃ v', e = .returned v' ∧ OwnC 1 35 w' w.heap.size v' css ∧ Below w.heap.size w w' := by
 obtain ⟨a, c, rfl, hc1, hc2, hx⟩ := id hA
 cases a with
 | none =>
  have hnil : css = [] := List.eq_nil_of_length_eq_zero (by have := hc2 rfl; omega)
  subst hnil
  obtain rfl := hc2 rfl
  clear hc2 hx
  have q := fun w => Lib.run_eql_slice_nil (P := Tryz.prog) w 98 _ none 0 0 0 0 Tryz.underlying98
  go_enter Tryz.func152, Tryz.ntmps152
  go_wp2
  go_ret
  exact ⟨_, rfl, OwnK.nil _ _, qL0⟩
 | some ad =>
  have hlit := qaB 1 35 w
  have q := fun w => Lib.run_eql_slice_nil (P := Tryz.prog) w 98 _ (some ad) css.length c 0 0 Tryz.underlying98
  go_enter Tryz.func152, Tryz.ntmps152
  go_wp2_with (at_builtin; refine qaN (w.alloc (.cells #[] 35)) rfl (.tmp 5) (.tmp 6) qlZ (by decide) rfl w.heap.size _ [] rfl hlit _ css rfl (hA.below ((Below.refl _ w).alloc (qN0) _)) hk h1 (by simp) (by unfold maxLen; simp; omega) (by simp; omega) ?_; intro v' w' hown' hg')
  go_ret
  exact ⟨v', rfl, hown', ((Below.refl _ w).alloc (qN0) _).grown hg' (by simp) hlit.base_le⟩
theorem qmj : ElemK 1 9 23 16 := ⟨Tryz.underlying23, _, _, rfl, rfl, rfl, rfl, rfl⟩
theorem qkU (v : Value) (css : List (List Value)) (w : World) (hA : SlK w v css) (hk : ∀ cs ∈ css, cs.length = 1) (h1 : ∀ cs ∈ css, ∀ u ∈ cs, u.oneCell' = true) (hl : css.length ≤ 1000000000000) :
 Calls Tryz.prog 153 #[v] w fun e w' => ∃ v', e = .returned v' ∧ OwnC 1 9 w' w.heap.size v' css ∧ Below w.heap.size w w' := by
 obtain ⟨a, c, rfl, hc1, hc2, hx⟩ := id hA
 cases a with
 | none =>
  have hnil : css = [] := List.eq_nil_of_length_eq_zero (by have := hc2 rfl; omega)
  subst hnil
  obtain rfl := hc2 rfl
  clear hc2 hx
  have q := fun w => Lib.run_eql_slice_nil (P := Tryz.prog) w 23 _ none 0 0 0 0 Tryz.underlying23
  go_enter Tryz.func153, Tryz.ntmps153
  go_wp2
  go_ret
  exact ⟨_, rfl, OwnK.nil _ _, qL0⟩
 | some ad =>
  have hlit := qaB 1 9 w
  have q := fun w => Lib.run_eql_slice_nil (P := Tryz.prog) w 23 _ (some ad) css.length c 0 0 Tryz.underlying23
  go_enter Tryz.func153, Tryz.ntmps153
  go_wp2_with (at_builtin; refine qaN (w.alloc (.cells #[] 9)) rfl (.tmp 5) (.tmp 6) qmj (by decide) rfl w.heap.size _ [] rfl hlit _ css rfl (hA.below ((Below.refl _ w).alloc (qN0) _)) hk h1 (by simp) (by unfold maxLen; simp; omega) (by simp; omega) ?_; intro v' w' hown' hg')
  go_ret
  exact ⟨v', rfl, hown', ((Below.refl _ w).alloc (qN0) _).grown hg' (by simp) hlit.base_le⟩
theorem qkX : ElemK 1 5 99 1 := ⟨Tryz.underlying99, _, _, rfl, rfl, rfl, rfl, rfl⟩
theorem qjY (v : Value) (css : List (List Value)) (w : World) (hA : SlK w v css) (hk : ∀ cs ∈ css, cs.length = 1) (h1 : ∀ cs ∈ css, ∀ u ∈ cs, u.oneCell' = true) (hl : css.length ≤ 1000000000000) :
 Calls Tryz.prog 154 #[v] w fun e w' => ∃ v', e = .returned v' ∧ OwnC 1 5 w' w.heap.size v' css ∧ Below w.heap.size w w' := by
 obtain ⟨a, c, rfl, hc1, hc2, hx⟩ := id hA
 cases a with
 | none =>
  have hnil : css = [] := List.eq_nil_of_length_eq_zero (by have := hc2 rfl; omega)
  subst hnil
  obtain rfl := hc2 rfl
  clear hc2 hx
  have q := fun w => Lib.run_eql_slice_nil (P := Tryz.prog) w 99 _ none 0 0 0 0 Tryz.underlying99
  go_enter Tryz.func154, Tryz.ntmps154
  go_wp2
  go_ret
  exact ⟨_, rfl, OwnK.nil _ _, qL0⟩
 | some ad =>
  have hlit := qaB 1 5 w
  have q := fun w => Lib.run_eql_slice_nil (P := Tryz.prog) w 99 _ (some ad) css.length c 0 0 Tryz.underlying99
  go_enter Tryz.func154, Tryz.ntmps154
  go_wp2_with (at_builtin; refine qaN (w.alloc (.cells #[] 5)) rfl (.tmp 5) (.tmp 6) qkX (by decide) rfl w.heap.size _ [] rfl hlit _ css rfl (hA.below ((Below.refl _ w).alloc (qN0) _)) hk h1 (by simp) (by unfold maxLen; simp; omega) (by simp; omega) ?_; intro v' w' hown' hg')
  go_ret
  exact ⟨v', rfl, hown', ((Below.refl _ w).alloc (qN0) _).grown hg' (by simp) hlit.base_le⟩
theorem qbZ {F : Fence} {n : Nat} {P : Program} {id : Nat} {Q : Exit → Act → World → Prop} {a : Act} {w : World} {l : List Oper} (C : World → Prop) (hro : F.round = none) (hm : P.follows .mixedOrders = true) (hB : Region.lexB .any l.toArray = true) (hC : C w.drew)
 (h : wpQuietIn F n P l.toArray (fun w' => ∃ p : WIn C, w' = p.w) (fun a' => ∀ w', (∃ p : WIn C, w' = p.w) → Q .normal a' w') l a) : (Code.region id l.toArray true).wpIn F n P Q a w :=
 wpIn_region_quiet (C := fun w' => ∃ p : WIn C, w' = p.w) hro hm hB ⟨⟨w.drew, hC⟩, rfl⟩ (by simpa using h)
theorem CallsIn.cls {F : Fence} {r : Nat} {C : World → Prop} {P : Program} {f : FuncId} {args : Array Value} {w : World} {v : Value}
 (h : CallsIn F r P f args w fun e w' => e = .returned v ∧ C w') : CallsIn F r P f args w fun e w'' => e = .returned v ∧ ∃ q : WIn C, w'' = q.w :=
 h.mono fun _ w' ⟨he, hc⟩ => ⟨he, ⟨w', hc⟩, rfl⟩
end Go.Proofs.YtckammgnmgkieaaGreat
