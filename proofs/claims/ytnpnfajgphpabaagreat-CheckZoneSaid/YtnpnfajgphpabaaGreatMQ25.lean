import Derived.RegionCalls
import Derived.WalkKit
import Derived.Deep.LoopGhost
import Derived.Shelf.RegionOpenPlain
import Derived.Shelf.Slices.Turned
import Derived.Ground.Names2Prog
import Derived.Shelf.Slices.Clone
import Derived.Shelf.Slices.SearchI
import Derived.Lib.Split
import Derived.Test.YtnpnfajgphpabaaGreatMQ43
import Derived.Test.YtnpnfajgphpabaaGreatMQ12
import Derived.Test.YtnpnfajgphpabaaGreatProg
namespace Go.Proofs.YtnpnfajgphpabaaGreat
set_option maxRecDepth 100000
set_option maxHeartbeats 4000000
open Go.RowKit Go.Shelf
def RcAt (W : World) (cs : List Value) (r : Rc) : Prop :=
 ∃ vo vn vu vt vr, cs = [vo, .int .u32 (r.ttl : Int), .int .i64 r.data.ty, vn, vu, vt, vr] ∧ NmAt W vo r.owner ∧ DatAt W (.agg #[.int .i64 r.data.ty, vn, vu, vt, vr]) r.data
def RcOK (r : Rc) : Prop := NmOK r.owner ∧ r.ttl < 2 ^ 32 ∧ DatOK r.data
theorem RcAt.below {W W' : World} {cs : List Value} {r : Rc} (h : RcAt W cs r) (hb : Below W.heap.size W W') : RcAt W' cs r := by
 obtain ⟨vo, vn, vu, vt, vr, e, h1, h2⟩ := h
 exact ⟨vo, vn, vu, vt, vr, e, h1.below hb, h2.below hb⟩
theorem qhK (cs cs' : List Value) (a b : Rc) (w : World) (hA : RcAt w cs a) (hU : RcAt w cs' b) (hk : RcOK a) (hk2 : RcOK b) :
 Calls Tryz.prog 56 #[.agg cs.toArray, .agg cs'.toArray] w fun e w' => e = .returned (.int .i64 (qab a b)) ∧ Below w.heap.size w w' := by
 obtain ⟨vo, vn, vu, vt, vr, rfl, a1, a2⟩ := hA
 obtain ⟨uo, un, uu, ut, ur, rfl, b1, b2⟩ := hU
 have hb0 := fun o o' => ((Below.refl w.heap.size w).alloc (qN0) o).alloc (o := o') (by simp)
 have HN := qH0 (fun W (hb : Below w.heap.size w W) => qdZ vo uo a.owner b.owner _ rfl W (a1.below hb) (b1.below hb) hk.1 hk2.1)
 have HD := qH0 (fun W (hb : Below w.heap.size w W) => qdg _ _ a.data b.data W (a2.below hb) (b2.below hb) hk.2.2 hk2.2.2)
 have hR := qH0 (show qab a b = orI (qai a.owner b.owner) (qas a.data b.data) from rfl)
 generalize qab a b = r at *
 generalize qai a.owner b.owner = q at *
 generalize qas a.data b.data = q2 at *
 generalize a.data.ty = x at *
 generalize b.data.ty = y at *
 generalize (a.ttl : Int) = ta at *
 generalize (b.ttl : Int) = tb at *
 obtain ⟨O1, hO1⟩ : ∃ O, O = Obj.cells #[vo, .int .u32 ta, .int .i64 x, vn, vu, vt, vr] 47 := ⟨_, rfl⟩
 obtain ⟨O2, hO2⟩ : ∃ O, O = Obj.cells #[uo, .int .u32 tb, .int .i64 y, un, uu, ut, ur] 47 := ⟨_, rfl⟩
 have hbb := hb0 O1 O2
 have HBB := qH0 hbb
 have hn := HN.out _ hbb
 have k1 : ((w.alloc O1).alloc O2).heap[w.heap.size]? = some O1 := (Below.heap_alloc (w.alloc O1) O2 w.heap.size (by simp)).trans (knew w O1)
 have k2 : ((w.alloc O1).alloc O2).heap[w.heap.size + 1]? = some O2 := by have := knew (w.alloc O1) O2; simpa using this
 rw [hO1] at k1 k2 hn HBB
 rw [hO2] at k1 k2 hn HBB
 have K1 := qH0 k1; have K2 := qH0 k2
 clear k1 k2 hbb hb0 a1 a2 b1 b2 hk hk2 hO1 hO2
 by_cases hq : q = 0
 ·subst hq
  have HR : Hid (r = q2) := qH0 (by rw [hR.out]; rfl)
  clear hR
  go_enter Tryz.func56, Tryz.ntmps56
  go_wp2_with fail
  refine hn.mono ?_
  rintro e w1 ⟨rfl, hb1⟩
  have HB1 := qH0 (qB0 HBB.out hb1)
  have c1 := (hb1.block _ (qaa K1.out)).trans K1.out
  have c2 := (hb1.block _ (qaa K2.out)).trans K2.out
  have p2 := kcell c1 2 _ rfl; have p3 := kcell c1 3 _ rfl; have p4 := kcell c1 4 _ rfl; have p5 := kcell c1 5 _ rfl; have p6 := kcell c1 6 _ rfl
  have r2 := kcell c2 2 _ rfl; have r3 := kcell c2 3 _ rfl; have r4 := kcell c2 4 _ rfl; have r5 := kcell c2 5 _ rfl; have r6 := kcell c2 6 _ rfl
  clear hb1 c1 c2 hn
  have hd := HD.out w1 HB1.out
  go_wp2_with fail
  refine hd.mono ?_
  rintro e w2 ⟨rfl, hb2⟩
  go_wp2
  go_ret
  exact ⟨by rw [HR.out]; rfl, qB0 HB1.out hb2⟩
 ·have HR : Hid (r = q) := qH0 (by rw [hR.out]; unfold orI; rw [if_neg hq])
  have hqz : (q == 0) = false := by simpa using hq
  have hqn : (q != 0) = true := by simpa using hq
  clear hR
  go_enter Tryz.func56, Tryz.ntmps56
  go_wp2_with fail
  refine hn.mono ?_
  rintro e w1 ⟨rfl, hb1⟩
  have HB1 := qH0 (qB0 HBB.out hb1)
  clear hb1 hn
  go_wp2
  go_ret
  exact ⟨by rw [HR.out]; rfl, HB1.out⟩
theorem qkl (cs cs' : List Value) (a b : Rc) (w : World) (hA : RcAt w cs a) (hU : RcAt w cs' b) (hk : RcOK a) (hk2 : RcOK b) :
 Calls Tryz.prog 57 #[.agg cs.toArray, .agg cs'.toArray] w fun e w' => e = .returned (.bool (sameR a b)) ∧ Below w.heap.size w w' := by
 obtain ⟨vo, vn, vu, vt, vr, rfl, a1, a2⟩ := hA
 obtain ⟨uo, un, uu, ut, ur, rfl, b1, b2⟩ := hU
 have hb0 := fun o o' => ((Below.refl w.heap.size w).alloc (qN0) o).alloc (o := o') (by simp)
 have HN := qH0 (fun W (hb : Below w.heap.size w W) => qbW vo uo a.owner b.owner _ rfl W (a1.below hb) (b1.below hb) hk.1 hk2.1)
 have HD := qH0 (fun W (hb : Below w.heap.size w W) => qil _ _ a.data b.data W (a2.below hb) (b2.below hb) hk.2.2 hk2.2.2)
 have hR := qH0 (show sameR a b = (sameN a.owner b.owner && (qas a.data b.data == 0)) from by
  unfold sameR qab orI
  have h0 := qbA a.owner b.owner
  by_cases h : qai a.owner b.owner = 0
  ·rw [if_pos h, h0.1 h, Bool.true_and]
  ·rw [if_neg h]
   have h2 : sameN a.owner b.owner = false := by
    cases hs : sameN a.owner b.owner
    ·rfl
    ·exact absurd (h0.2 hs) h
   rw [h2]; simpa using h)
 generalize sameR a b = r at *
 generalize sameN a.owner b.owner = q at *
 generalize (qas a.data b.data == 0) = q2 at *
 generalize a.data.ty = x at *
 generalize b.data.ty = y at *
 generalize (a.ttl : Int) = ta at *
 generalize (b.ttl : Int) = tb at *
 obtain ⟨O1, hO1⟩ : ∃ O, O = Obj.cells #[vo, .int .u32 ta, .int .i64 x, vn, vu, vt, vr] 47 := ⟨_, rfl⟩
 obtain ⟨O2, hO2⟩ : ∃ O, O = Obj.cells #[uo, .int .u32 tb, .int .i64 y, un, uu, ut, ur] 47 := ⟨_, rfl⟩
 have hbb := hb0 O1 O2
 have HBB := qH0 hbb
 have hn := HN.out _ hbb
 have k1 : ((w.alloc O1).alloc O2).heap[w.heap.size]? = some O1 := (Below.heap_alloc (w.alloc O1) O2 w.heap.size (by simp)).trans (knew w O1)
 have k2 : ((w.alloc O1).alloc O2).heap[w.heap.size + 1]? = some O2 := by have := knew (w.alloc O1) O2; simpa using this
 rw [hO1] at k1 k2 hn HBB
 rw [hO2] at k1 k2 hn HBB
 have K1 := qH0 k1; have K2 := qH0 k2
 clear k1 k2 hbb hb0 a1 a2 b1 b2 hk hk2 hO1 hO2
 cases q
 ·have HR : Hid (r = false) := qH0 (by rw [hR.out]; rfl)
  clear hR
  go_enter Tryz.func57, Tryz.ntmps57
  go_wp2_with fail
  refine hn.mono ?_
  rintro e w1 ⟨rfl, hb1⟩
  have HB1 := qH0 (qB0 HBB.out hb1)
  clear hb1 hn
  go_wp2
  go_ret
  exact ⟨by rw [HR.out]; rfl, HB1.out⟩
 ·have HR : Hid (r = q2) := qH0 (by rw [hR.out]; rfl)
  clear hR
  go_enter Tryz.func57, Tryz.ntmps57
  go_wp2_with fail
  refine hn.mono ?_
  rintro e w1 ⟨rfl, hb1⟩
  have HB1 := qH0 (qB0 HBB.out hb1)
  have c1 := (hb1.block _ (qaa K1.out)).trans K1.out
  have c2 := (hb1.block _ (qaa K2.out)).trans K2.out
  have p2 := kcell c1 2 _ rfl; have p3 := kcell c1 3 _ rfl; have p4 := kcell c1 4 _ rfl; have p5 := kcell c1 5 _ rfl; have p6 := kcell c1 6 _ rfl
  have r2 := kcell c2 2 _ rfl; have r3 := kcell c2 3 _ rfl; have r4 := kcell c2 4 _ rfl; have r5 := kcell c2 5 _ rfl; have r6 := kcell c2 6 _ rfl
  clear hb1 c1 c2 hn
  have hd := HD.out w1 HB1.out
  go_wp2_with fail
  refine hd.mono ?_
  rintro e w2 ⟨rfl, hb2⟩
  go_wp2
  go_ret
  exact ⟨by rw [HR.out]; rfl, qB0 HB1.out hb2⟩
end Go.Proofs.YtnpnfajgphpabaaGreat
namespace Go.Proofs.YtnpnfajgphpabaaGreat
set_option maxRecDepth 1000000
set_option maxHeartbeats 4000000
set_option linter.unusedSectionVars false
open Go.RowKit Go.Shelf Go.Sort Go.Lib
structure SLay (P : Program) (k : Nat) : Prop where
 mixed : P.follows .mixedOrders = true
 t0 : P.underlying 0 = some (.tuple #[])
 a0 : ∀ w, (isAgg 0).run P w = .ok false w
 z0 : ∀ w, (Go.sizeOf 0).run P w = .ok 1 w
 v0 : ∀ w, (zeroValue 0).run P w = .ok (.tuple #[]) w
 t3 : P.underlying 3 = some (.int .i64)
 a3 : ∀ w, (isAgg 3).run P w = .ok false w
 z3 : ∀ w, (Go.sizeOf 3).run P w = .ok 1 w
 v3 : ∀ w, (zeroValue 3).run P w = .ok (.int .i64 0) w
 t4 : P.underlying 4 = some (.bool)
 a4 : ∀ w, (isAgg 4).run P w = .ok false w
 z4 : ∀ w, (Go.sizeOf 4).run P w = .ok 1 w
 v4 : ∀ w, (zeroValue 4).run P w = .ok (.bool false) w
 t85 : P.underlying 153 = some (.int .u64)
 a85 : ∀ w, (isAgg 153).run P w = .ok false w
 z85 : ∀ w, (Go.sizeOf 153).run P w = .ok 1 w
 v85 : ∀ w, (zeroValue 153).run P w = .ok (.int .u64 0) w
 t43 : P.underlying 24 = some (.slice 47)
 a43 : ∀ w, (isAgg 24).run P w = .ok false w
 z43 : ∀ w, (Go.sizeOf 24).run P w = .ok 1 w
 v43 : ∀ w, (zeroValue 24).run P w = .ok (.slice none 0 0) w
 t69 : P.underlying 111 = some (.func #[47, 47] #[3] false)
 a69 : ∀ w, (isAgg 111).run P w = .ok false w
 z69 : ∀ w, (Go.sizeOf 111).run P w = .ok 1 w
 v69 : ∀ w, (zeroValue 111).run P w = .ok (.nilFunc) w
 aE : ∀ w, (isAgg 47).run P w = .ok true w
 zE : ∀ w, (Go.sizeOf 47).run P w = .ok k w
theorem slay_here : SLay Tryz.prog 7 where
 mixed := by kernel_rfl
 t0 := Tryz.underlying0
 a0 := Tryz.isAgg0
 z0 := Tryz.sizeOf0
 v0 := Tryz.zeroValue0
 t3 := Tryz.underlying3
 a3 := Tryz.isAgg3
 z3 := Tryz.sizeOf3
 v3 := Tryz.zeroValue3
 t4 := Tryz.underlying4
 a4 := Tryz.isAgg4
 z4 := Tryz.sizeOf4
 v4 := Tryz.zeroValue4
 t85 := Tryz.underlying153
 a85 := Tryz.isAgg153
 z85 := Tryz.sizeOf153
 v85 := Tryz.zeroValue153
 t43 := Tryz.underlying24
 a43 := Tryz.isAgg24
 z43 := Tryz.sizeOf24
 v43 := Tryz.zeroValue24
 t69 := Tryz.underlying111
 a69 := Tryz.isAgg111
 z69 := Tryz.sizeOf111
 v69 := Tryz.zeroValue111
 aE := Tryz.isAgg47
 zE := Tryz.sizeOf47
variable {P : Program} {α : Type} [Inhabited α]
def qe6 (enc : α → List Value) (k : Nat) (w : World) (blk off : Nat) (d : Array α) (a b n : Nat) (e : Ending) (w' : World) : Prop :=
 e = .returned (.tuple #[]) ∧ ∃ d' : Array α, d'.size = d.size ∧ (∀ x, x < d.size → d'[x]! = Stb.swr a b n (fun i => d[i]!) x) ∧ PermIn a (b + n) d d' ∧ SW enc k w blk off d' w'
structure SwrAt (enc : α → List Value) (k : Nat) (w : World) (blk off : Nat) (d : Array α) (a b i : Nat) (m : Nat) (dk : Array α) (W : World) : Prop where
 size : dk.size = d.size
 at_ : ∀ x, x < d.size → dk[x]! = Stb.swr a b i (fun i => d[i]!) x
 perm : PermIn a m d dk
 sw : SW enc k w blk off dk W
theorem qbR {k : Nat} (L : SLay P k) (hF : P.funcs[130]? = some Tryz.f130) (enc : α → List Value) (hk : ∀ x, (enc x).length = k) (h1 : ∀ x, ∀ v ∈ enc x, v.oneCell' = true)
 (blk off cap a b n : Nat) (d : Array α) (fv : Value) (w : World) (hH : HoldsK enc k w blk off d) (hlt : blk < w.heap.size) (hab : a + n ≤ b) (hb : b + n ≤ d.size) (hsz : d.size < 4611686018427387904) :
 Calls P 130 #[.slice (some ⟨blk, off, none⟩) d.size cap, .int .i64 a, .int .i64 b, .int .i64 n, fv] w (qe6 enc k w blk off d a b n) := by
 have mixed := L.mixed; have t0 := L.t0; have a0 := L.a0; have z0 := L.z0; have v0 := L.v0; have t3 := L.t3; have a3 := L.a3; have z3 := L.z3; have v3 := L.v3; have t4 := L.t4; have a4 := L.a4; have z4 := L.z4; have v4 := L.v4; have t85 := L.t85; have a85 := L.a85; have z85 := L.z85; have v85 := L.v85; have t43 := L.t43; have a43 := L.a43; have z43 := L.z43; have v43 := L.v43; have t69 := L.t69; have a69 := L.a69; have z69 := L.z69; have v69 := L.v69; have aE := L.aE; have zE := L.zE
 have u43 := run_underlying L.t43
 have HK := qH0 hk; have H1 := qH0 h1
 have HS0 : Hid (SwrAt enc k w blk off d a b 0 (b + n) d w) := qH0 ⟨rfl, fun x _ => (Stb.swr_zero a b _ x).symm, permIn_refl d a _, SW.refl hH hlt⟩
 clear hH hlt hk h1
 go_enter hF, Tryz.ntmps130
 go_wp2
 go_loopw [10] (fun vi wr => ∃ (i : Nat) (dk : Array α), vi = .int .i64 i ∧ i ≤ n ∧ Hid (SwrAt enc k w blk off d a b i (b + n) dk wr)) (fun vi _ => n - (intOf vi).toNat)
 case atStart => exact ⟨0, d, rfl, Nat.zero_le _, HS0⟩
 case round =>
  obtain ⟨i, dk, rfl, hi, HS⟩ := hrel
  by_cases hin : i < n
  ·have hinz : (i : Int) < (n : Int) := by omega
   obtain ⟨xa, hxa⟩ : ∃ x, dk[a + i]! = x := ⟨_, rfl⟩
   obtain ⟨xb, hxb⟩ : ∃ x, dk[b + i]! = x := ⟨_, rfl⟩
   have hsk := HS.out.size
   have hD := HS.out.sw.drew
   have la := hD.load P HK.out (a + i) (by omega)
   have lb := hD.load P HK.out (b + i) (by omega)
   have s1 := hD.store1 P HK.out H1.out (a + i) (by omega) xb
   have s2 := hD.store2 P HK.out H1.out (a + i) (b + i) (by omega) (by omega) xb xa
   rw [hxa] at la
   rw [hxb] at lb
   have hsa : (enc xa).length = k := HK.out _
   have hsb : (enc xb).length = k := HK.out _
   have HN : Hid (SwrAt enc k w blk off d a b (i + 1) (b + n) (swp dk (a + i) (b + i)) ((wr.drew.setCells blk (off + (a + i) * k) (enc xb)).setCells blk (off + (b + i) * k) (enc xa))) := by
    have h := HS.out
    refine qH0 ⟨by rw [size_swp]; exact hsk, Stb.swr_step (by omega) (by omega) hsk h.at_, permIn_trans _ _ _ a (b + n) h.perm (swp_permIn dk a (b + n) (a + i) (b + i) (by omega) (by omega) (by omega) (by omega) (by omega)), ?_⟩
    have := hD.swap HK.out (a + i) (b + i) (by omega) (by omega)
    rwa [hxa, hxb] at this
   obtain ⟨ca, hca⟩ : ∃ c, c = enc xa := ⟨_, rfl⟩
   obtain ⟨cb, hcb⟩ : ∃ c, c = enc xb := ⟨_, rfl⟩
   rw [← hca] at la hsa
   rw [← hcb] at lb hsb s1
   rw [← hca, ← hcb] at s2 HN
   have ja : ((a : Int) + (i : Int)) < (d.size : Int) := by omega
   have jb : ((b : Int) + (i : Int)) < (d.size : Int) := by omega
   have pa : (0 : Int) ≤ (a : Int) + (i : Int) := by omega
   have pb : (0 : Int) ≤ (b : Int) + (i : Int) := by omega
   have ea : ((a : Int) + (i : Int)).toNat = a + i := by omega
   have eb : ((b : Int) + (i : Int)).toNat = b + i := by omega
   clear hca hcb hD hsk hxa hxb
   go_wp2_with fail
   go_big_region_o
   all_goals go_wp2
   go_roundw
   case measure => simp [intOf]; omega
   case rel => exact ⟨i + 1, _, by go_num, by omega, HN⟩
  ·obtain rfl : i = n := by omega
   go_wp2
   go_end0
   have h := HS.out
   exact ⟨rfl, dk, h.size, h.at_, h.perm, h.sw⟩
end Go.Proofs.YtnpnfajgphpabaaGreat
namespace Go.Proofs.YtnpnfajgphpabaaGreat
set_option maxRecDepth 20000
open Go.RowKit Go.Shelf
def WdsAt (W : World) (v : Value) (l : List Wd) : Prop :=
 ∃ a c, v = .slice a l.length c ∧ l.length ≤ c ∧ (a = none → c = 0) ∧ (l = [] ∨ ∃ b off, a = some ⟨b, off, none⟩ ∧ b < W.heap.size ∧ ∀ j (hj : j < l.length), W.cell? ⟨b, off + j * 2, none⟩ = some (strV l[j].1) ∧ W.cell? ⟨b, off + j * 2 + 1, none⟩ = some (.bool l[j].2))
theorem WdsAt.below {W W' : World} {v : Value} {l : List Wd} (h : WdsAt W v l) (hb : Below W.heap.size W W') : WdsAt W' v l := by
 obtain ⟨a, c, e, h1, h2, h⟩ := h
 refine ⟨a, c, e, h1, h2, ?_⟩
 rcases h with h | ⟨b, off, ea, hlt, hc⟩
 ·exact .inl h
 ·exact .inr ⟨b, off, ea, Nat.lt_of_lt_of_le hlt hb.size, fun j hj => ⟨(hb.cell (p := ⟨b, off + j * 2, none⟩) hlt).trans (hc j hj).1, (hb.cell (p := ⟨b, off + j * 2 + 1, none⟩) hlt).trans (hc j hj).2⟩⟩
theorem WdsAt.cell {W W' : World} {a : Option Addr} {n c : Nat} {l : List Wd} (h : WdsAt W (.slice a n c) l) (hb : Below W.heap.size W W') (j : Nat) (hj : j < l.length) :
 ∃ b off, a = some ⟨b, off, none⟩ ∧ b < W.heap.size ∧ W'.cell? ⟨b, off + j * 2, none⟩ = some (strV l[j].1) ∧ W'.cell? ⟨b, off + j * 2 + 1, none⟩ = some (.bool l[j].2) := by
 obtain ⟨a', c', e, _, _, h⟩ := h
 cases e
 rcases h with h | ⟨b, off, ea, hlt, hc⟩
 ·subst h; simp at hj
 ·exact ⟨b, off, ea, hlt, (hb.cell (p := ⟨b, off + j * 2, none⟩) hlt).trans (hc j hj).1, (hb.cell (p := ⟨b, off + j * 2 + 1, none⟩) hlt).trans (hc j hj).2⟩
def WdsOK (l : List Wd) : Prop := l.length ≤ 1048576 ∧ ∀ x ∈ l, x.1.length ≤ 500000
end Go.Proofs.YtnpnfajgphpabaaGreat
