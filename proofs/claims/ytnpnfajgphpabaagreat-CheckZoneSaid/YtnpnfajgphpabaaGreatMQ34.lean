import Derived.Deep.RegionLaw
import Derived.Deep.RegionHeld3
import Derived.Test.YtnpnfajgphpabaaGreatMQ07
namespace Go.Proofs.YtnpnfajgphpabaaGreat
set_option maxRecDepth 100000
set_option maxHeartbeats 16000000
open Go.RowKit Go.Shelf
def OfPostS (w0 : World) (v : Value) (d : Dat) (w : World) (e : Ending) (w' : World) : Prop :=
 ∃ vn vn' vu vt vr, ∃ ss : List SlV, v = .agg #[.int .i64 d.ty, vn, vu, vt, vr] ∧ e = .returned (.agg #[.int .i64 d.ty, vn', vu, vt, vr]) ∧ OwnG 22 slEnc w' w.heap.size vn' ss ∧ ss.length = d.names.length ∧
  (∀ j (h1 : j < ss.length) (h2 : j < d.names.length), NmAt w0 (slEnc ss[j]) d.names[j]) ∧ SlAt w0 vu (d.nums.map u32V) ∧ NmAt w0 vt d.texts ∧ SlAt w0 vr (d.raw.map bv) ∧ Below w.heap.size w w'
theorem qjV (w0 : World) (v : Value) (d : Dat) (w : World) (hA : DatAt w0 v d) (hwz : Below w0.heap.size w0 w) (hk : d.names.length ≤ 1048576) :
 Calls Tryz.prog 67 #[v] w (OfPostS w0 v d w) := by
 obtain ⟨vn, vu, vt, vr, rfl, ⟨vs, s1, sl, s2⟩, a2, a3, a4⟩ := hA
 obtain ⟨an, ca, rfl, _⟩ := id s1
 obtain ⟨bn, cb, rfl, _⟩ := id a2
 obtain ⟨tn, ct, rfl, _⟩ := id a3.1
 obtain ⟨rn, cr, rfl, _⟩ := id a4
 obtain ⟨ss, hss⟩ := qhQ vs (fun x hx => by obtain ⟨j, hj, rfl⟩ := List.mem_iff_getElem.1 hx; exact (s2 j hj).sl)
 subst hss
 have HA2 := qH0 a2; have HA3 := qH0 a3; have HA4 := qH0 a4
 have hNA : ∀ j (_ : j < (ss.map slEnc).length) (h2 : j < d.names.length), NmAt w0 (ss.map slEnc)[j] d.names[j] := fun j h1 _ => s2 j h1
 have HNA := qH0 hNA
 have HCA := qH0 (fun W (hb : Below w.heap.size w W) j (hj : j < (ss.map slEnc).length) => (s1.below hwz).cell hb j hj)
 clear s1 s2 a2 a3 a4 hNA hwz
 rw [List.length_map] at sl
 rw [List.length_map, List.length_map, List.length_map]
 obtain ⟨n1, e1⟩ : ∃ n, ss.length = n := ⟨_, rfl⟩
 obtain ⟨n2, e2⟩ : ∃ n, d.nums.length = n := ⟨_, rfl⟩
 obtain ⟨n3, e3⟩ : ∃ n, d.texts.length = n := ⟨_, rfl⟩
 obtain ⟨n4, e4⟩ : ∃ n, d.raw.length = n := ⟨_, rfl⟩
 rw [List.length_map, e2] at HA2
 rw [e3] at HA3
 rw [List.length_map, e4] at HA4
 rw [e1, e2, e3, e4]
 have hn1 : n1 ≤ 1048576 := by omega
 have E1 := qH0 e1; have SL := qH0 sl
 clear e1 e2 e3 e4 sl hk
 go_enter Tryz.func67, Tryz.ntmps67
 go_upto_block 0 with fail
 have hW : ∀ W0, (((w.alloc (.cells #[.int .i64 d.ty, .slice an n1 ca, .slice bn n2 cb, .slice tn n3 ct, .slice rn n4 cr] 44)).alloc (.cells #[.int .i64 0, .slice none 0 0, .slice none 0 0, .slice none 0 0, .slice none 0 0] 87)).alloc (.cells #[.int .i64 d.ty, .slice none 0 0, .slice bn n2 cb, .slice tn n3 ct, .slice rn n4 cr] 87)) = W0 → Below w.heap.size w W0 ∧ (∀ (j : Nat) (z : Value), [Value.int .i64 d.ty, .slice an n1 ca, .slice bn n2 cb, .slice tn n3 ct, .slice rn n4 cr][j]? = some z → W0.cell? ⟨w.heap.size, j, none⟩ = some z) ∧ W0.heap[w.heap.size + 1]? = some (.cells #[.int .i64 0, .slice none 0 0, .slice none 0 0, .slice none 0 0, .slice none 0 0] 87) ∧ W0.heap[w.heap.size + 1 + 1]? = some (.cells #[.int .i64 d.ty, .slice none 0 0, .slice bn n2 cb, .slice tn n3 ct, .slice rn n4 cr] 87) := by
  rintro W0 rfl
  have hz1 : (w.alloc (.cells #[.int .i64 d.ty, .slice an n1 ca, .slice bn n2 cb, .slice tn n3 ct, .slice rn n4 cr] 44)).heap.size = w.heap.size + 1 := by simp
  have hz2 : ((w.alloc (.cells #[.int .i64 d.ty, .slice an n1 ca, .slice bn n2 cb, .slice tn n3 ct, .slice rn n4 cr] 44)).alloc (.cells #[.int .i64 0, .slice none 0 0, .slice none 0 0, .slice none 0 0, .slice none 0 0] 87)).heap.size = w.heap.size + 1 + 1 := by simp
  have e0 := new_at w [.int .i64 d.ty, .slice an n1 ca, .slice bn n2 cb, .slice tn n3 ct, .slice rn n4 cr] 44
  have e1 := qf4 (w.alloc (.cells #[.int .i64 d.ty, .slice an n1 ca, .slice bn n2 cb, .slice tn n3 ct, .slice rn n4 cr] 44)) (.cells #[.int .i64 0, .slice none 0 0, .slice none 0 0, .slice none 0 0, .slice none 0 0] 87)
  have e2 := qf4 ((w.alloc (.cells #[.int .i64 d.ty, .slice an n1 ca, .slice bn n2 cb, .slice tn n3 ct, .slice rn n4 cr] 44)).alloc (.cells #[.int .i64 0, .slice none 0 0, .slice none 0 0, .slice none 0 0, .slice none 0 0] 87)) (.cells #[.int .i64 d.ty, .slice none 0 0, .slice bn n2 cb, .slice tn n3 ct, .slice rn n4 cr] 87)
  rw [hz1] at e1
  rw [hz2] at e2
  have b1 : Below (w.heap.size + 1) (w.alloc (.cells #[.int .i64 d.ty, .slice an n1 ca, .slice bn n2 cb, .slice tn n3 ct, .slice rn n4 cr] 44)) (((w.alloc (.cells #[.int .i64 d.ty, .slice an n1 ca, .slice bn n2 cb, .slice tn n3 ct, .slice rn n4 cr] 44)).alloc (.cells #[.int .i64 0, .slice none 0 0, .slice none 0 0, .slice none 0 0, .slice none 0 0] 87)).alloc (.cells #[.int .i64 d.ty, .slice none 0 0, .slice bn n2 cb, .slice tn n3 ct, .slice rn n4 cr] 87)) := ((qL0).alloc (by simp) _).alloc (by simp) _
  have b2 : Below (w.heap.size + 1 + 1) ((w.alloc (.cells #[.int .i64 d.ty, .slice an n1 ca, .slice bn n2 cb, .slice tn n3 ct, .slice rn n4 cr] 44)).alloc (.cells #[.int .i64 0, .slice none 0 0, .slice none 0 0, .slice none 0 0, .slice none 0 0] 87)) (((w.alloc (.cells #[.int .i64 d.ty, .slice an n1 ca, .slice bn n2 cb, .slice tn n3 ct, .slice rn n4 cr] 44)).alloc (.cells #[.int .i64 0, .slice none 0 0, .slice none 0 0, .slice none 0 0, .slice none 0 0] 87)).alloc (.cells #[.int .i64 d.ty, .slice none 0 0, .slice bn n2 cb, .slice tn n3 ct, .slice rn n4 cr] 87)) := (qL0).alloc (by simp) _
  refine ⟨(((Below.refl _ w).alloc (qN0) _).alloc (by simp) _).alloc (by simp; omega) _, fun j z h => (b1.cell (p := ⟨w.heap.size, j, none⟩) (Nat.lt_succ_self _)).trans (e0 j z h), (b2.block _ (Nat.lt_succ_self _)).trans e1, e2⟩
 generalize hW0 : (((w.alloc (.cells #[.int .i64 d.ty, .slice an n1 ca, .slice bn n2 cb, .slice tn n3 ct, .slice rn n4 cr] 44)).alloc (.cells #[.int .i64 0, .slice none 0 0, .slice none 0 0, .slice none 0 0, .slice none 0 0] 87)).alloc (.cells #[.int .i64 d.ty, .slice none 0 0, .slice bn n2 cb, .slice tn n3 ct, .slice rn n4 cr] 87)) = W0
 obtain ⟨k1, k2, k3, k4⟩ := hW W0 hW0
 clear hW hW0
 have K1 := qH0 k1; have K2 := qH0 k2; have K3 := qH0 k3; have K4 := qH0 k4
 clear k1 k2 k3 k4
 go_wp2_with fail
 go_loopw [4] (fun i wr => ∃ (k : Nat) (a : Option Addr) (c : Nat), i = .int .i64 k ∧ k ≤ n1 ∧ Hid (OwnG 22 slEnc wr (w.heap.size + 3) (.slice a k c) (ss.take k)) ∧ Hid (wr.heap[w.heap.size + 1 + 1]? = some (.cells #[.int .i64 d.ty, .slice a k c, .slice bn n2 cb, .slice tn n3 ct, .slice rn n4 cr] 87)) ∧ Hid (Below (w.heap.size + 2) W0 wr)) (fun i _ => n1 - (intOf i).toNat)
 case atStart => exact ⟨0, none, 0, rfl, Nat.zero_le _, qH0 (OwnG.nil _ _), K4, qH0 (qL0)⟩
 case round =>
  obtain ⟨k, a, c, rfl, hkn, HOW, HBX, HB⟩ := hrel
  have hx1 := (HB.out.cell (p := ⟨w.heap.size, 1, none⟩) (by show w.heap.size < _; omega)).trans (K2.out 1 _ rfl)
  have hx3 := qaT HBX.out 1 _ rfl
  have hB0 := K1.out.trans (HB.out.mono (by omega))
  have hsz := qbO HBX.out
  by_cases hlt : k < n1
  ·have hks : k < ss.length := by rw [E1.out]; exact hlt
   obtain ⟨g, off, rfl, hg, hc⟩ := HCA.out wr hB0 k (by rw [List.length_map]; exact hks)
   rw [List.getElem_map] at hc
   have HTK := qH0 (show ss.take (k + 1) = ss.take k ++ [ss[k]] from List.take_succ_eq_append_getElem hks)
   obtain ⟨⟨pa, pn, pc⟩, hp⟩ : ∃ s, ss[k] = s := ⟨_, rfl⟩
   rw [hp] at hc HTK
   unfold slEnc at hc
   simp only at hc
   have hkn1 : (0 : Int) ≤ (k : Int) := by omega
   have hkn2 : (k : Int) < (n1 : Int) := by omega
   have HH := qH0 (And.intro hg (And.intro hsz hlt))
   obtain ⟨ht0, i0, zz, hi, hz0, hz1, hz2, hzc⟩ := qj3
   have hown2 : wr.ownsRow (w.heap.size + 3) 22 1 (.slice a k c) k ((ss.take k).map slEnc) := by
    have h := HOW.out
    unfold OwnG at h
    rw [List.length_take, Nat.min_eq_left (by omega)] at h
    exact h
   have HOB := qH0 HOW.out.base_le
   have hAw : ∀ W, Below wr.heap.size wr W → W.cell? ⟨w.heap.size, 1, none⟩ = some (.slice (some ⟨g, off, none⟩) n1 ca) ∧ W.cell? ⟨g, off + k, none⟩ = some (.slice pa pn pc) ∧ W.cell? ⟨w.heap.size + 1 + 1, 1, none⟩ = some (.slice a k c) := fun W hb =>
    ⟨(hb.cell (p := ⟨w.heap.size, 1, none⟩) (by show w.heap.size < _; omega)).trans hx1, (hb.cell (p := ⟨g, off + k, none⟩) (by show g < _; omega)).trans hc, (hb.cell (p := ⟨w.heap.size + 1 + 1, 1, none⟩) hsz).trans hx3⟩
   obtain ⟨da1, da2, da3⟩ := hAw wr.drew (qaI (qL0))
   obtain ⟨db1, db2, db3⟩ := hAw (wr.drew.alloc (.cells #[.slice pa pn pc] 22)) ((qaI (qL0)).alloc (qN0) _)
   have HBY : Hid ((wr.drew.alloc (.cells #[.slice pa pn pc] 22)).heap[w.heap.size + 1 + 1]? = some (.cells #[.int .i64 d.ty, .slice a k c, .slice bn n2 cb, .slice tn n3 ct, .slice rn n4 cr] 87)) := qH0 ((((qaI (Below.refl wr.heap.size wr)).alloc (qN0) _).block _ hsz).trans HBX.out)
   have HOY : Hid (OwnG 22 slEnc (wr.drew.alloc (.cells #[.slice pa pn pc] 22)) (w.heap.size + 3) (.slice a k c) (ss.take k)) := qH0 (HOW.out.drew.alloc _)
   have HH := qH0 (And.intro hg (And.intro hsz hlt))
   clear hp hks hB0 hg hlt hAw
   go_wp2_with fail
   go_region_law (first
    | (refine step_append_lies _ (by rfl) _ _ _ (by rfl) (w.heap.size + 3) 22 i0 zz 1 24 ht0 hi hz0 hz1 hz2 hzc (by omega) (.slice a k c) k ((ss.take k).map slEnc) (by rfl) ((hown2.drew).alloc _)
        ⟨wr.heap.size, 0, none⟩ 1 1 [.slice pa pn pc] (by rfl) (by rfl) (World.news_of_block (cs := #[.slice pa pn pc]) (t := 22) (fr := (0, 0)) (heap_alloc_new wr _)) (by simp [Value.oneCell'])
        (by omega) (by unfold maxLen; omega) (by omega) (by simp; omega) (wr.heap.size + 1) (by simp) ?_; intro gg cap w6 hown6 hgrow hat hlt6; have hbx6 := qH0 ((hgrow.block (w.heap.size + 1 + 1) (qbO HBY.out) (HOY.out.ne_block HBY.out (by decide))).trans HBY.out); have hc6 := qaT hbx6.out 1 _ rfl; have hf6 := qa7 hbx6.out 1))
   all_goals
    have HO6 := qH0 (show OwnG 22 slEnc (w6.setCell ⟨w.heap.size + 1 + 1, 1, none⟩ (.slice (some ⟨gg, 0, none⟩) (k + 1) cap)) (w.heap.size + 3) (.slice (some ⟨gg, 0, none⟩) (k + 1) cap) (ss.take (k + 1)) from by
     refine OwnG.keptB (cs := #[.int .i64 d.ty, .slice a k c, .slice bn n2 cb, .slice tn n3 ct, .slice rn n4 cr]) (t := 87) ?_ hbx6.out (by decide) 1 _
     unfold OwnG
     rw [HTK.out, List.length_append, List.map_append, List.length_take, Nat.min_eq_left (by have := HH.out.2.2; have := E1.out; omega)]
     exact hown6)
    have HX6 := qH0 (show (w6.setCell ⟨w.heap.size + 1 + 1, 1, none⟩ (.slice (some ⟨gg, 0, none⟩) (k + 1) cap)).heap[w.heap.size + 1 + 1]? = some (.cells #[.int .i64 d.ty, .slice (some ⟨gg, 0, none⟩) (k + 1) cap, .slice bn n2 cb, .slice tn n3 ct, .slice rn n4 cr] 87) from qak hbx6.out 1 _)
    have HB6 := qH0 (show Below (w.heap.size + 2) W0 (w6.setCell ⟨w.heap.size + 1 + 1, 1, none⟩ (.slice (some ⟨gg, 0, none⟩) (k + 1) cap)) from
     HB.out.trans ((((qaI (Below.refl (w.heap.size + 2) wr)).alloc (by show w.heap.size + 2 ≤ wr.heap.size; omega) _).grown hgrow (by simp; omega) (fun x e => by have := HOB.out x e; omega)).setCell (p := ⟨w.heap.size + 1 + 1, 1, none⟩) (by show w.heap.size + 2 ≤ w.heap.size + 1 + 1; omega) _))
    have hltk := HH.out.2.2
    clear hown6 hgrow hat hlt6 hc6 hf6 hown2 da1 da2 da3 db1 db2 db3 hx1 hx3 hc
    go_wp2_with fail
    go_roundw
    case rel => exact ⟨k + 1, some ⟨gg, 0, none⟩, cap, by go_num, by omega, HO6, HX6, HB6⟩
    case measure => simp [intOf]; omega
  ·obtain rfl : k = n1 := by omega
   have hkn3 : ¬ (k : Int) < (k : Int) := by omega
   have hR := (HB.out.block (w.heap.size + 1) (by omega)).trans K3.out
   obtain ⟨r0, r1, r2, r3, r4⟩ := cells5' HBX.out
   obtain ⟨f0, f1, f2, f3, f4⟩ := qkp hR
   obtain ⟨s0, s1, s2, s3, s4⟩ := cells5' hR
   have HR := qH0 hR
   have HB0 := qH0 hB0
   obtain ⟨q0, q1, q2, q3, q4⟩ := cells5' (qg8 hR (.int .i64 d.ty) (.slice a k c) (.slice bn n2 cb) (.slice tn n3 ct) (.slice rn n4 cr))
   unfold set5 at q0 q1 q2 q3 q4
   clear hR hB0 hx3 hsz
   go_wp2_with fail
   refine bodyPost_ret (v := .agg #[.int .i64 d.ty, .slice a k c, .slice bn n2 cb, .slice tn n3 ct, .slice rn n4 cr]) (by simp [results, Tryz.results67, go_sem, q0, q1, q2, q3, q4]) rfl ?_
   have ho := qiN HR.out (.int .i64 d.ty) (.slice a k c) (.slice bn n2 cb) (.slice tn n3 ct) (.slice rn n4 cr) (by decide) HOW.out
   have ht : ss.take k = ss := List.take_of_length_le (by rw [E1.out]; exact qN0)
   rw [ht] at ho
   exact ⟨_, _, _, _, _, ss, rfl, rfl, ho.weaken (by omega), SL.out, fun j h1 h2 => (by have h := HNA.out j (by rw [List.length_map]; exact h1) h2; rw [List.getElem_map] at h; exact h), HA2.out, HA3.out, HA4.out, HB0.out.trans ((qih (Below.refl (w.heap.size + 1) wr) _ _ _ _ _).mono (by omega))⟩
def OfR (w0 W : World) (base : Nat) (cs : List Value) (r : Rc) : Prop :=
 ∃ vo vn vu vt vr, ∃ ss : List SlV, cs = [vo, .int .u32 (r.ttl : Int), .int .i64 r.data.ty, vn, vu, vt, vr] ∧ NmAt w0 vo r.owner ∧ OwnG 22 slEnc W base vn ss ∧ ss.length = r.data.names.length ∧
  (∀ j (h1 : j < ss.length) (h2 : j < r.data.names.length), NmAt w0 (slEnc ss[j]) r.data.names[j]) ∧ SlAt w0 vu (r.data.nums.map u32V) ∧ NmAt w0 vt r.data.texts ∧ SlAt w0 vr (r.data.raw.map bv)
theorem OfR.rcAt {w0 W : World} {base : Nat} {cs : List Value} {r : Rc} (h : OfR w0 W base cs r) (hb : Below w0.heap.size w0 W) : RcAt W cs r := by
 obtain ⟨vo, vn, vu, vt, vr, ss, e, h1, h2, h3, h4, h5, h6, h7⟩ := h
 exact ⟨vo, vn, vu, vt, vr, e, h1.below hb, _, _, _, _, rfl, ⟨ss.map slEnc, SlAt.of_own h2, by rw [List.length_map]; exact h3, fun j hj => by rw [List.getElem_map]; exact (h4 j (by simpa using hj) (by rw [List.length_map] at hj; omega)).below hb⟩, h5.below hb, h6.below hb, h7.below hb⟩
theorem OfR.below {w0 W W' : World} {base : Nat} {cs : List Value} {r : Rc} (h : OfR w0 W base cs r) (hb : Below W.heap.size W W') : OfR w0 W' base cs r := by
 obtain ⟨vo, vn, vu, vt, vr, ss, e, h1, h2, h3⟩ := h
 exact ⟨vo, vn, vu, vt, vr, ss, e, h1, h2.below hb, h3⟩
theorem OfR.weaken {w0 W : World} {base b2 : Nat} {cs : List Value} {r : Rc} (h : OfR w0 W base cs r) (hb : b2 ≤ base) : OfR w0 W b2 cs r := by
 obtain ⟨vo, vn, vu, vt, vr, ss, e, h1, h2, h3⟩ := h
 exact ⟨vo, vn, vu, vt, vr, ss, e, h1, h2.weaken hb, h3⟩
theorem OfR.keptB {w0 W : World} {base : Nat} {cs : List Value} {r : Rc} (h : OfR w0 W base cs r) {B : Nat} {xs : Array Value} {T : TypeId} (hB : W.heap[B]? = some (.cells xs T)) (hT : T ≠ 22) (j : Nat) (u : Value) : OfR w0 (W.setCell ⟨B, j, none⟩ u) base cs r := by
 obtain ⟨vo, vn, vu, vt, vr, ss, e, h1, h2, h3⟩ := h
 exact ⟨vo, vn, vu, vt, vr, ss, e, h1, h2.keptB hB hT j u, h3⟩
theorem OfR.grown {w0 W W' : World} {base base' k : Nat} {T : TypeId} {cs : List Value} {r : Rc} {v' : Value} {yss : List (List Value)} (h : OfR w0 W base cs r) (h' : OwnC k T W base' v' yss) (hT : 22 ≠ T) (hg : W.grownBy W' v'.ownBlock) : OfR w0 W' base cs r := by
 obtain ⟨vo, vn, vu, vt, vr, ss, e, h1, h2, h3⟩ := h
 exact ⟨vo, vn, vu, vt, vr, ss, e, h1, h2.kept_c h' hT hg, h3⟩
theorem qho {fn : Func} {t : Tmp} (h : fn.results = #[.cell t 89]) (tmps : Array Value) (W : World) {a : Nat} {x0 x1 x2 x3 x4 x5 x6 : Value}
 (ht : tmps.getD t undef = .pointer (some ⟨a, 0, none⟩)) (hb : W.heap[a]? = some (.cells #[x0, x1, x2, x3, x4, x5, x6] 89)) : (results fn tmps).run Tryz.prog W = .ok (.agg #[x0, x1, x2, x3, x4, x5, x6]) W := by
 have ht' : tmps[t]?.getD undef = .pointer (some ⟨a, 0, none⟩) := by rw [← ht]; simp
 have hu : ∀ w, Sem.run Tryz.prog (underlying 89) w = .ok _ w := run_underlying Tryz.underlying89
 have y0 := kcell hb 0 _ rfl; have y1 := kcell hb 1 _ rfl; have y2 := kcell hb 2 _ rfl; have y3 := kcell hb 3 _ rfl; have y4 := kcell hb 4 _ rfl; have y5 := kcell hb 5 _ rfl; have y6 := kcell hb 6 _ rfl
 simp [results, h, ht', loadVar, asAddr, go_sem, hu, y0, y1, y2, y3, y4, y5, y6, isAgg]
structure OfB (w : World) (v0 v1 v2 v3 v4 v5 v6 : Value) (W : World) : Prop where
 p : W.heap[w.heap.size]? = some (.cells #[v0, v1, v2, v3, v4, v5, v6] 47)
 q : ∃ cs, W.heap[w.heap.size + 1]? = some (.cells cs 89) ∧ cs.size = 7
 below : Below w.heap.size w W
theorem OfB.keep {w W W' : World} {v0 v1 v2 v3 v4 v5 v6 : Value} (h : OfB w v0 v1 v2 v3 v4 v5 v6 W) (hb : Below W.heap.size W W') : OfB w v0 v1 v2 v3 v4 v5 v6 W' := by
 obtain ⟨cs, hq, hs⟩ := h.q
 exact ⟨(hb.block _ (qaa h.p)).trans h.p, ⟨cs, (hb.block _ (qaa hq)).trans hq, hs⟩, h.below.trans (hb.mono h.below.size)⟩
theorem OfB.put {w W : World} {v0 v1 v2 v3 v4 v5 v6 : Value} (h : OfB w v0 v1 v2 v3 v4 v5 v6 W) (j : Nat) (u : Value) : OfB w v0 v1 v2 v3 v4 v5 v6 (W.setCell ⟨w.heap.size + 1, j, none⟩ u) := by
 obtain ⟨cs, hq, hs⟩ := h.q
 exact ⟨((qaf W _ j u).block _ (qaa h.p) (by simp)).trans h.p, ⟨_, qak hq j u, by simp [hs]⟩, h.below.setCell (p := ⟨w.heap.size + 1, j, none⟩) (by simp) u⟩
def OfSS (w : World) (v0 v1 v2 v3 v4 v5 v6 : Value) (W : World) : Prop :=
 W.cell? ⟨w.heap.size, 0, none⟩ = some v0 ∧ W.cell? ⟨w.heap.size, 1, none⟩ = some v1 ∧ W.cell? ⟨w.heap.size, 2, none⟩ = some v2 ∧ W.cell? ⟨w.heap.size, 3, none⟩ = some v3 ∧ W.cell? ⟨w.heap.size, 4, none⟩ = some v4 ∧ W.cell? ⟨w.heap.size, 5, none⟩ = some v5 ∧ W.cell? ⟨w.heap.size, 6, none⟩ = some v6 ∧ OfB w v0 v1 v2 v3 v4 v5 v6 W
theorem OfB.ss {w W : World} {v0 v1 v2 v3 v4 v5 v6 : Value} (h : OfB w v0 v1 v2 v3 v4 v5 v6 W) : OfSS w v0 v1 v2 v3 v4 v5 v6 W :=
 ⟨kcell h.p 0 _ rfl, kcell h.p 1 _ rfl, kcell h.p 2 _ rfl, kcell h.p 3 _ rfl, kcell h.p 4 _ rfl, kcell h.p 5 _ rfl, kcell h.p 6 _ rfl, h⟩
theorem OfSS.b {w W : World} {v0 v1 v2 v3 v4 v5 v6 : Value} (h : OfSS w v0 v1 v2 v3 v4 v5 v6 W) : OfB w v0 v1 v2 v3 v4 v5 v6 W := h.2.2.2.2.2.2.2
def qli (w0 w : World) (r : Rc) (e : Ending) (w' : World) : Prop := ∃ cs, e = .returned (.agg cs.toArray) ∧ OfR w0 w' w.heap.size cs r ∧ Below w.heap.size w w'
theorem qhX (w0 : World) (cs : List Value) (r : Rc) (w : World) (hA : RcAt w0 cs r) (hwz : Below w0.heap.size w0 w) (hk : r.data.names.length ≤ 1048576) :
 Calls Tryz.prog 34 #[.agg cs.toArray] w (qli w0 w r) := by
 have hsh := hA.shape
 obtain ⟨vo, vn, vu, vt, vr, rfl, a1, a2⟩ := hA
 have hOf := fun W (hb : Below w.heap.size w W) => qjV w0 _ r.data W a2 (qB0 hwz hb) hk
 have HA1 := qH0 a1
 obtain ⟨⟨p0, q0, k0⟩, ⟨p3, q3, k3⟩, ⟨p4, q4, k4⟩, ⟨p5, q5, k5⟩, ⟨p6, q6, k6⟩, e0⟩ := hsh
 simp only [List.cons.injEq, and_true, true_and] at e0
 obtain ⟨rfl, rfl, rfl, rfl, rfl⟩ := e0
 have hX0 : OfB w (.slice p0 q0 k0) (.int .u32 (r.ttl : Int)) (.int .i64 r.data.ty) (.slice p3 q3 k3) (.slice p4 q4 k4) (.slice p5 q5 k5) (.slice p6 q6 k6) ((w.alloc (.cells #[.slice p0 q0 k0, .int .u32 (r.ttl : Int), .int .i64 r.data.ty, .slice p3 q3 k3, .slice p4 q4 k4, .slice p5 q5 k5, .slice p6 q6 k6] 47)).alloc (.cells #[.slice none 0 0, .int .u32 0, .int .i64 0, .slice none 0 0, .slice none 0 0, .slice none 0 0, .slice none 0 0] 89)) := by
  refine ⟨(Below.heap_alloc _ _ _ (by simp)).trans (knew w _), ⟨#[.slice none 0 0, .int .u32 0, .int .i64 0, .slice none 0 0, .slice none 0 0, .slice none 0 0, .slice none 0 0], ?_, rfl⟩, ((Below.refl _ w).alloc (qN0) _).alloc (by simp) _⟩
  have := knew (w.alloc (.cells #[.slice p0 q0 k0, .int .u32 (r.ttl : Int), .int .i64 r.data.ty, .slice p3 q3 k3, .slice p4 q4 k4, .slice p5 q5 k5, .slice p6 q6 k6] 47)) (.cells #[.slice none 0 0, .int .u32 0, .int .i64 0, .slice none 0 0, .slice none 0 0, .slice none 0 0, .slice none 0 0] 89)
  rw [World.size_alloc] at this
  exact this
 have hS0 := hX0.ss
 have HOF := qH0 (fun (W : World) (h : OfSS w (.slice p0 q0 k0) (.int .u32 (r.ttl : Int)) (.int .i64 r.data.ty) (.slice p3 q3 k3) (.slice p4 q4 k4) (.slice p5 q5 k5) (.slice p6 q6 k6) W) => hOf W h.b.below)
 have KS := qH0 (fun (W W' : World) (h : OfSS w (.slice p0 q0 k0) (.int .u32 (r.ttl : Int)) (.int .i64 r.data.ty) (.slice p3 q3 k3) (.slice p4 q4 k4) (.slice p5 q5 k5) (.slice p6 q6 k6) W) (hb : Below W.heap.size W W') => (h.b.keep hb).ss)
 have KD := qH0 (fun (W : World) (h : OfSS w (.slice p0 q0 k0) (.int .u32 (r.ttl : Int)) (.int .i64 r.data.ty) (.slice p3 q3 k3) (.slice p4 q4 k4) (.slice p5 q5 k5) (.slice p6 q6 k6) W) => (h.b.keep (W' := W.drew) ⟨rfl, rfl, rfl, qN0, fun _ _ => rfl⟩).ss)
 have KP := qH0 (fun (W : World) (y0 y1 y2 y3 y4 y5 y6 : Value) (h : OfSS w (.slice p0 q0 k0) (.int .u32 (r.ttl : Int)) (.int .i64 r.data.ty) (.slice p3 q3 k3) (.slice p4 q4 k4) (.slice p5 q5 k5) (.slice p6 q6 k6) W) => (((((((h.b.put 0 y0).put 1 y1).put 2 y2).put 3 y3).put 4 y4).put 5 y5).put 6 y6).ss)
 unfold OfSS at hS0 HOF KS KD KP
 have HS0 := qH0 hS0
 clear hOf hX0 a1 a2 hk hwz hS0
 go_enter Tryz.func34, Tryz.ntmps34
 go_wp2_with fail
 generalize ((w.alloc (.cells #[.slice p0 q0 k0, .int .u32 (r.ttl : Int), .int .i64 r.data.ty, .slice p3 q3 k3, .slice p4 q4 k4, .slice p5 q5 k5, .slice p6 q6 k6] 47)).alloc (.cells #[.slice none 0 0, .int .u32 0, .int .i64 0, .slice none 0 0, .slice none 0 0, .slice none 0 0, .slice none 0 0] 89)) = W0 at *
 have hS0 := HS0.out
 go_region_held3 (fun W => W.cell? ⟨w.heap.size, 0, none⟩ = some (.slice p0 q0 k0) ∧ W.cell? ⟨w.heap.size, 1, none⟩ = some (.int .u32 (r.ttl : Int)) ∧ W.cell? ⟨w.heap.size, 2, none⟩ = some (.int .i64 r.data.ty) ∧ W.cell? ⟨w.heap.size, 3, none⟩ = some (.slice p3 q3 k3) ∧ W.cell? ⟨w.heap.size, 4, none⟩ = some (.slice p4 q4 k4) ∧ W.cell? ⟨w.heap.size, 5, none⟩ = some (.slice p5 q5 k5) ∧ W.cell? ⟨w.heap.size, 6, none⟩ = some (.slice p6 q6 k6) ∧ OfB w (.slice p0 q0 k0) (.int .u32 (r.ttl : Int)) (.int .i64 r.data.ty) (.slice p3 q3 k3) (.slice p4 q4 k4) (.slice p5 q5 k5) (.slice p6 q6 k6) W)
  (first | with_reducible assumption | (with_reducible exact KD.out _ (by with_reducible assumption)) | (with_reducible exact KP.out _ _ _ _ _ _ _ _ (by with_reducible assumption)))
  (first | ((with_reducible refine (HOF.out _ (by with_reducible assumption)).mono ?_); rintro e w7 ⟨_, vn', _, _, _, ss, e5, rfl, h1, h2, h3, h4, h5, h6, hb7⟩; injection e5 with e5; injection e5 with e5; simp only [List.cons.injEq, and_true, true_and] at e5; obtain ⟨rfl, rfl, rfl, rfl⟩ := e5; obtain ⟨a9, c9, rfl⟩ := h1.shape; have hS2 := KS.out _ _ (by with_reducible assumption) hb7; have hq7 := hS2.2.2.2.2.2.2.2.q; obtain ⟨cs7, hq7, hs7⟩ := hq7; obtain ⟨y0, y1, y2, y3, y4, y5, y6, rfl⟩ := arr7 hs7; have fz0 := qag hq7 0; have cl0 := kcell hq7 0 _ rfl; have fz1 := qag hq7 1; have cl1 := kcell hq7 1 _ rfl; have fz2 := qag hq7 2; have cl2 := kcell hq7 2 _ rfl; have fz3 := qag hq7 3; have cl3 := kcell hq7 3 _ rfl; have fz4 := qag hq7 4; have cl4 := kcell hq7 4 _ rfl; have fz5 := qag hq7 5; have cl5 := kcell hq7 5 _ rfl; have fz6 := qag hq7 6; have cl6 := kcell hq7 6 _ rfl; have HH := qH0 (And.intro h1 (And.intro h2 (And.intro h3 (And.intro h4 (And.intro h5 h6))))); clear h1 h2 h3 h4 h5 h6))
 all_goals
  go_wp2_with fail
  have HS7 := hS2.2.2.2.2.2.2.2
  have hsz : w.heap.size ≤ W0.heap.size := hS0.2.2.2.2.2.2.2.below.size
  obtain ⟨h1, h2, h3, h4, h5, h6⟩ := HH.out
  have hof : OfR w0 w7 w.heap.size [.slice p0 q0 k0, .int .u32 (r.ttl : Int), .int .i64 r.data.ty, .slice a9 ss.length c9, .slice p4 q4 k4, .slice p5 q5 k5, .slice p6 q6 k6] r := ⟨_, _, _, _, _, ss, rfl, HA1.out, h1.weaken hsz, h2, h3, h4, h5, h6⟩
  have hb_0 := qak hq7 0 (.slice p0 q0 k0)
  have ho_0 := hof.keptB hq7 (by decide) 0 (.slice p0 q0 k0)
  have hb_1 := qak hb_0 1 (.int .u32 (r.ttl : Int))
  have ho_1 := ho_0.keptB hb_0 (by decide) 1 (.int .u32 (r.ttl : Int))
  have hb_2 := qak hb_1 2 (.int .i64 r.data.ty)
  have ho_2 := ho_1.keptB hb_1 (by decide) 2 (.int .i64 r.data.ty)
  have hb_3 := qak hb_2 3 (.slice a9 ss.length c9)
  have ho_3 := ho_2.keptB hb_2 (by decide) 3 (.slice a9 ss.length c9)
  have hb_4 := qak hb_3 4 (.slice p4 q4 k4)
  have ho_4 := ho_3.keptB hb_3 (by decide) 4 (.slice p4 q4 k4)
  have hb_5 := qak hb_4 5 (.slice p5 q5 k5)
  have ho_5 := ho_4.keptB hb_4 (by decide) 5 (.slice p5 q5 k5)
  have hb_6 := qak hb_5 6 (.slice p6 q6 k6)
  have ho_6 := ho_5.keptB hb_5 (by decide) 6 (.slice p6 q6 k6)
  have hsN := (((((((HS7.put 0 (.slice p0 q0 k0)).put 1 (.int .u32 (r.ttl : Int))).put 2 (.int .i64 r.data.ty)).put 3 (.slice a9 ss.length c9)).put 4 (.slice p4 q4 k4)).put 5 (.slice p5 q5 k5)).put 6 (.slice p6 q6 k6))
  have hqN : (_ : World).heap[w.heap.size + 1]? = some (.cells #[.slice p0 q0 k0, .int .u32 (r.ttl : Int), .int .i64 r.data.ty, .slice a9 ss.length c9, .slice p4 q4 k4, .slice p5 q5 k5, .slice p6 q6 k6] 89) := hb_6
  refine bodyPost_ret (qho rfl _ _ rfl hqN) rfl ?_
  exact ⟨[.slice p0 q0 k0, .int .u32 (r.ttl : Int), .int .i64 r.data.ty, .slice a9 ss.length c9, .slice p4 q4 k4, .slice p5 q5 k5, .slice p6 q6 k6], rfl, ho_6, hsN.below⟩
theorem qgY {S T : TypeId} {k bytes : Nat} {ops : Array Oper} {rest : List Oper} {o : Oper} {a : Act} {Q : Exit → Act → World → Prop} (W : World) (hgd : o.guard = none) (s x : Operand) (hE : ElemK k T S bytes) (hk0 : 0 < k)
 (ho : o.op = .call { callee := .builtin .append, args := #[s, x], argTypes := #[S, S] })
 (base : Nat) (v : Value) (xs : List (List Value)) (hs : a.eval s = v) (hown : OwnC k T W base v xs)
 (cs : List Value) (hcl : cs.length = k) (hc1 : ∀ u ∈ cs, u.oneCell' = true) (c : Nat) (hx : a.eval x = .slice (some ⟨W.heap.size, 0, none⟩) 1 c)
 (hbase : base ≤ W.heap.size) (hk : xs.length + 1 ≤ maxLen) (hk2 : (xs.length + 1) * bytes ≤ 140737488355328)
 (h : ∀ v' w', OwnC k T w' base v' (xs ++ [cs]) → W.grownBy w' v.ownBlock → wpList Tryz.prog ops Q rest (a.put o.dst v') w') :
 wpList Tryz.prog ops Q (o :: rest) a (W.alloc (.cells cs.toArray T)) := by
 obtain ⟨ht, i, z, hi, hz, hz1, hz2, hzc⟩ := hE
 refine wpList_append_own _ hgd s x S ho base T i z k bytes ht hi hz hz1 hz2 hzc hk0 v xs.length (xs.flatMap fun cs => cs) hs (hown.alloc _) ⟨W.heap.size, 0, none⟩ 1 c cs hx (by omega) (qba W _ _) hc1 hk hk2 (by simp; omega) ?_
 intro v' w' h1 h2 _
 refine h v' w' ?_ (qaY h2)
 unfold OwnC OwnK
 rw [List.length_append, List.flatMap_append]
 have e : [cs].flatMap (fun cs => cs) = cs := by simp
 rw [e]
 exact h1
theorem qao : ElemK 7 89 35 136 := ⟨Tryz.underlying35, _, _, rfl, rfl, rfl, rfl, rfl⟩
def OfRs (w0 W : World) (base : Nat) (csd : List (List Value)) (l : List Rc) : Prop := csd.length = l.length ∧ ∀ j (h1 : j < csd.length) (h2 : j < l.length), OfR w0 W base csd[j] l[j]
theorem OfRs.snoc {w0 W W' : World} {base : Nat} {v : Value} {csd : List (List Value)} {l : List Rc} {cs : List Value} {r : Rc} (h : OfRs w0 W base csd l) (ho : OwnC 7 89 W base v csd) (hc : OfR w0 W base cs r) (hg : W.grownBy W' v.ownBlock) : OfRs w0 W' base (csd ++ [cs]) (l ++ [r]) := by
 refine ⟨by simp [h.1], fun j a b => ?_⟩
 by_cases hj : j < csd.length
 ·rw [List.getElem_append_left hj, List.getElem_append_left (by have := h.1; omega)]
  exact (h.2 j hj (by have := h.1; omega)).grown ho (by decide) hg
 ·obtain rfl : j = csd.length := by simp at a; omega
  have e1 : (csd ++ [cs])[csd.length]'a = cs := by simp
  have e2 : (l ++ [r])[csd.length]'b = r := by simp [h.1]
  rw [e1, e2]
  exact hc.grown ho (by decide) hg
theorem OfRs.below {w0 W W' : World} {base : Nat} {csd : List (List Value)} {l : List Rc} (h : OfRs w0 W base csd l) (hb : Below W.heap.size W W') : OfRs w0 W' base csd l := ⟨h.1, fun j a b => (h.2 j a b).below hb⟩
theorem OfR.len {w0 W : World} {base : Nat} {cs : List Value} {r : Rc} (h : OfR w0 W base cs r) : cs.length = 7 := by
 obtain ⟨vo, vn, vu, vt, vr, ss, rfl, _⟩ := h; rfl
def qdD (w0 w : World) (l : List Rc) (e : Ending) (w' : World) : Prop := ∃ v' csd, e = .returned v' ∧ OwnC 7 89 w' w.heap.size v' csd ∧ OfRs w0 w' w.heap.size csd l ∧ Below w.heap.size w w'
theorem qid (w0 : World) (v : Value) (css : List (List Value)) (l : List Rc) (w : World) (hA : SlK w0 v css) (hR : Rcs w0 css l) (hwz : Below w0.heap.size w0 w) (hN : ∀ r ∈ l, r.data.names.length ≤ 1048576) (hl : css.length ≤ 1048576) :
 Calls Tryz.prog 11 #[v] w (qdD w0 w l) := by
 obtain ⟨a, c, rfl, hc1, -, -⟩ := id hA
 obtain ⟨n, hn⟩ : ∃ n, css.length = n := ⟨_, rfl⟩
 rw [hn] at hA hc1 hl ⊢
 have HA := qH0 hA; have HR := qH0 hR; have HWZ := qH0 hwz; have HN := qH0 hN; have HLN := qH0 hn
 have HLL := qH0 (show l.length = n by rw [← hn]; exact hR.1.symm)
 clear hA hR hwz hN hn
 go_enter Tryz.func11, Tryz.ntmps11
 go_wp2
 go_loopw [3, 4] (fun vo vi wr => ∃ (k : Nat) (ga : Option Addr) (gc : Nat) (csd : List (List Value)), vo = .slice ga k gc ∧ vi = .int .i64 k ∧ k ≤ n ∧ Hid (csd.length = k) ∧ Hid (OwnC 7 89 wr w.heap.size (.slice ga k gc) csd) ∧ Hid (OfRs w0 wr w.heap.size csd (l.take k)) ∧ Hid (Below w.heap.size w wr)) (fun _ vi _ => n - (intOf vi).toNat)
 case atStart => exact ⟨0, none, 0, [], rfl, rfl, Nat.zero_le _, qH0 rfl, qH0 (OwnK.nil _ _), qH0 ⟨rfl, fun j h => by simp at h⟩, qH0 (qL0)⟩
 case round =>
  obtain ⟨k, ga, gc, csd, rfl, rfl, hk, HK, HO, HF, HB⟩ := hrel
  by_cases hlt : k < n
  ·have hltz : (k : Int) < (n : Int) := by omega
   have hk1 : k < css.length := by have := HLN.out; omega
   have hk2 : k < l.length := by have := HLL.out; omega
   have hck : ∀ cs ∈ css, cs.length = 7 := fun cs hc => by
    obtain ⟨i, hi, rfl⟩ := List.mem_iff_getElem.1 hc
    exact (HR.out.2 i hi (by have := HR.out.1; omega)).len
   obtain ⟨b, off, rfl, hb, hel⟩ := HA.out.elem hck (by omega)
   have h0 := HR.out.2 k hk1 hk2
   have hnl := HN.out _ (List.getElem_mem hk2)
   have htk : l.take (k + 1) = l.take k ++ [l[k]] := List.take_succ_eq_append_getElem hk2
   obtain ⟨r, hr⟩ : ∃ r, l[k]'hk2 = r := ⟨_, rfl⟩
   rw [hr] at h0 hnl htk
   clear hr
   have HTK := qH0 htk
   have hof := qhX w0 _ r wr h0 (qB0 HWZ.out HB.out) hnl
   obtain ⟨⟨p0, q0, r0⟩, ⟨p3, q3, r3⟩, ⟨p4, q4, r4⟩, ⟨p5, q5, r5⟩, ⟨p6, q6, r6⟩, e0⟩ := h0.shape
   simp only at e0
   obtain ⟨c0, c1, c2, c3, c4, c5, c6⟩ := hel k hk1 _ _ _ _ _ _ _ e0 wr (qB0 HWZ.out HB.out)
   rw [e0] at hof
   clear h0 hnl htk e0 hel hk1 hk2 hck
   go_wp2_with fail
   refine hof.mono ?_
   rintro e w2 ⟨cs2, rfl, hof2, hb2⟩
   have hz2 := HB.out.size
   have HB2 := qH0 (qB0 HB.out hb2)
   have HO2 := qH0 (OwnK.below HO.out hb2)
   have HF2 := qH0 (HF.out.below hb2)
   have HOF := qH0 (hof2.weaken hz2)
   obtain ⟨vo, vn, vu, vt, vr, ss, rfl, g1, g2, g3, g4, g5, g6, g7⟩ := hof2
   obtain ⟨a0, d0, rfl, -⟩ := nmAt_sl.1 g1
   obtain ⟨a1, d1, rfl⟩ := g2.shape
   obtain ⟨a2, d2, rfl, -⟩ := id g5
   obtain ⟨a3, d3, rfl, -⟩ := nmAt_sl.1 g6
   obtain ⟨a4, d4, rfl, -⟩ := id g7
   clear g1 g2 g3 g4 g5 g6 g7
   generalize List.length (List.map strV r.owner) = m0 at *
   generalize ss.length = m1 at *
   generalize List.length (List.map u32V r.data.nums) = m2 at *
   generalize List.length (List.map strV r.data.texts) = m3 at *
   generalize List.length (List.map bv r.data.raw) = m4 at *
   have HSZ := qH0 HB2.out.size
   clear hb2 hof c0 c1 c2 c3 c4 c5 c6 HO HF HB
   go_wp2_with (at_builtin; refine qgY w2 rfl (.tmp 11) (.tmp 17) qao (by decide) rfl w.heap.size (.slice ga k gc) csd rfl HO2.out [.slice a0 m0 d0, .int .u32 (r.ttl : Int), .int .i64 r.data.ty, .slice a1 m1 d1, .slice a2 m2 d2, .slice a3 m3 d3, .slice a4 m4 d4] rfl (by intro u hu; simp only [List.mem_cons, List.not_mem_nil, or_false] at hu; rcases hu with rfl | rfl | rfl | rfl | rfl | rfl | rfl <;> rfl) 1 (by rfl) HSZ.out (by have := HK.out; unfold maxLen; omega) (by have := HK.out; omega) ?_; intro v3 w3 hown3 hg3)
   have HF3 := qH0 (HF2.out.snoc HO2.out HOF.out hg3)
   have HB3 := qH0 (HB2.out.grown hg3 HSZ.out (OwnK.base_le HO2.out))
   obtain ⟨a9, c9, e9⟩ := OwnK.shape hown3
   rw [List.length_append, HK.out] at e9
   simp only [List.length_cons, List.length_nil, Nat.zero_add] at e9
   subst e9
   have HO3 := qH0 hown3
   clear hg3 hown3
   go_roundw
   case measure => simp [intOf]; omega
   case rel => exact ⟨k + 1, a9, c9, _, rfl, by go_num, by omega, qH0 (by rw [List.length_append, HK.out]; rfl), HO3, qH0 (by rw [HTK.out]; exact HF3.out), HB3⟩
  ·obtain rfl : k = n := by omega
   go_wp2
   go_ret
   have h := HF.out
   rw [List.take_of_length_le (by have := HLL.out; omega)] at h
   exact ⟨_, csd, rfl, HO.out, h, HB.out⟩
theorem qer (x : Rc) : ∀ (k : Nat) (c : List Rc), k ≤ c.length → (∀ j (h : j < c.length), j < k → qab c[j] x < 0) → (∀ h : k < c.length, 0 < qab c[k] x) → insR c x = c.take k ++ [x] ++ c.drop k
 | 0, [], _, _, _ => rfl
 | 0, y :: r, _, _, h => by
  have h0 := h (by simp)
  simp only [List.getElem_cons_zero] at h0
  rw [insR, if_neg (by omega), if_neg (by omega)]; rfl
 | k + 1, [], hk, _, _ => by simp at hk
 | k + 1, y :: r, hk, h1, h2 => by
  have h0 := h1 0 (by simp) (by omega)
  simp only [List.getElem_cons_zero] at h0
  have ih := qer x k r (by simpa using hk) (fun j h hj => by have := h1 (j + 1) (by simp; omega) (by omega); simpa using this) (fun h => by have := h2 (by simp; omega); simpa using this)
  rw [insR, if_pos h0, ih]; rfl
theorem qgG (x : Rc) : ∀ (k : Nat) (c : List Rc) (hk : k < c.length), (∀ j (h : j < c.length), j < k → qab c[j] x < 0) → qab c[k] x = 0 → insR c x = c.set k ⟨c[k].owner, minT c[k].ttl x.ttl, c[k].data⟩
 | _, [], hk, _, _ => by simp at hk
 | 0, y :: r, _, _, h => by
  simp only [List.getElem_cons_zero] at h
  rw [insR, if_neg (by omega), if_pos h]; rfl
 | k + 1, y :: r, hk, h1, h2 => by
  have h0 := h1 0 (by simp) (by omega)
  simp only [List.getElem_cons_zero] at h0
  have ih := qgG x k r (by simpa using hk) (fun j h hj => by have := h1 (j + 1) (by simp; omega) (by omega); simpa using this) (by simpa using h2)
  rw [insR, if_pos h0, ih]; rfl
theorem qiM {y x : Rc} (hy : RcOK y) (hx : RcOK x) : RcOK ⟨y.owner, minT y.ttl x.ttl, y.data⟩ :=
 ⟨hy.1, by show minT y.ttl x.ttl < _; unfold minT; split; exact hx.2.1; exact hy.2.1, hy.2.2⟩
theorem qhM {x : Rc} (hx : RcOK x) : ∀ (l : List Rc), (∀ y ∈ l, RcOK y) → ∀ y ∈ insR l x, RcOK y
 | [], _, y, hy => by
  rw [insR, List.mem_singleton] at hy; subst hy; exact hx
 | z :: r, h, y, hy => by
  have hz := h z (by simp)
  rw [insR] at hy
  by_cases h1 : qab z x < 0
  ·rw [if_pos h1] at hy
   rcases List.mem_cons.1 hy with rfl | hy
   ·exact hz
   ·exact qhM hx r (fun a ha => h a (by simp [ha])) y hy
  ·rw [if_neg h1] at hy
   by_cases h2 : qab z x = 0
   ·rw [if_pos h2] at hy
    rcases List.mem_cons.1 hy with rfl | hy
    ·exact qiM hz hx
    ·exact h y (by simp [hy])
   ·rw [if_neg h2] at hy
    rcases List.mem_cons.1 hy with rfl | hy
    ·exact hx
    ·exact h y hy
theorem qf2 (l : List Rc) : (∀ r ∈ l, RcOK r) → ∀ y ∈ canonM l, RcOK y :=
 qaV (P := fun l => (∀ r ∈ l, RcOK r) → ∀ y ∈ canonM l, RcOK y) (fun _ y hy => by cases hy) (fun l x ih h y hy => by
  rw [qaW] at hy
  exact qhM (h x (by simp)) _ (ih fun r hr => h r (by simp [hr])) y hy) l
theorem qhh {l : List Rc} {i : Nat} (h : i < l.length) : canonM (l.take (i + 1)) = insR (canonM (l.take i)) l[i] := by
 rw [List.take_succ_eq_append_getElem h, qaW]
end Go.Proofs.YtnpnfajgphpabaaGreat
