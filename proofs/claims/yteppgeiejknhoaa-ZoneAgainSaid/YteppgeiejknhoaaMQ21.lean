/-
  law4.Of: the data as the document's. (Written by wip/tools/gen12.py.)
-/
import Derived.Test.YteppgeiejknhoaaMQ06
import Derived.Test.YteppgeiejknhoaaMQ22
import Derived.Deep.RegionLaw
import Derived.Test.YteppgeiejknhoaaMQ20
import Derived.Test.YteppgeiejknhoaaMQ19
import Derived.Test.YteppgeiejknhoaaMQ10
import Derived.Test.YteppgeiejknhoaaMQ07
import Derived.Test.YteppgeiejknhoaaMQ16
import Derived.Test.YteppgeiejknhoaaMQ15
import Derived.ProofKit
import Derived.OpenShut
import Derived.ShutString
import Derived.ChangeArms
import Derived.ChangeSlices
import Derived.SliceStrings
import Derived.Deep.Slices
import Derived.Shelf.Vars
import Derived.Handed
import Derived.HandedShaped
namespace Go.Proofs.Yteppgeiejknhoaa
set_option maxRecDepth 20000
open Go.RowKit Go.Shelf
set_option maxRecDepth 20000
theorem sl_list : ∀ vs : List Value, (∀ x ∈ vs, ∃ s : SlV, x = slEnc s) → ∃ ss : List SlV, ss.map slEnc = vs
  | [], _ => ⟨[], rfl⟩
  | x :: r, h => by
    obtain ⟨s, hs⟩ := h x (by simp)
    obtain ⟨ss, hss⟩ := sl_list r (fun y hy => h y (by simp [hy]))
    exact ⟨s :: ss, by simp [hs, hss]⟩
theorem NmAt.sl {W : World} {v : Value} {xs : Nm} (h : NmAt W v xs) : ∃ s : SlV, v = slEnc s := by
  obtain ⟨⟨a, c, rfl, _⟩, _⟩ := h
  exact ⟨(a, xs.length, c), rfl⟩
theorem set5_block' {W : World} {R : Nat} {y0 y1 y2 y3 y4 : Value} (h : W.heap[R]? = some (.cells #[y0, y1, y2, y3, y4] 77)) (x0 x1 x2 x3 x4 : Value) : (set5 W R x0 x1 x2 x3 x4).heap[R]? = some (.cells #[x0, x1, x2, x3, x4] 77) :=
  block_set (block_set (block_set (block_set (block_set h 0 x0) 1 x1) 2 x2) 3 x3) 4 x4
theorem ownG_set5 {α : Type} {T : TypeId} {enc : α → Value} {W : World} {base : Nat} {v : Value} {xs : List α} {R : Nat} {y0 y1 y2 y3 y4 : Value} (h : W.heap[R]? = some (.cells #[y0, y1, y2, y3, y4] 77)) (x0 x1 x2 x3 x4 : Value) (hT : 77 ≠ T) (ho : OwnG T enc W base v xs) : OwnG T enc (set5 W R x0 x1 x2 x3 x4) base v xs :=
  ((((ho.keptB h hT 0 x0).keptB (block_set h 0 x0) hT 1 x1).keptB (block_set (block_set h 0 x0) 1 x1) hT 2 x2).keptB (block_set (block_set (block_set h 0 x0) 1 x1) 2 x2) hT 3 x3).keptB (block_set (block_set (block_set (block_set h 0 x0) 1 x1) 2 x2) 3 x3) hT 4 x4
theorem cells5' {W : World} {R : Nat} {T : TypeId} {x0 x1 x2 x3 x4 : Value} (h : W.heap[R]? = some (.cells #[x0, x1, x2, x3, x4] T)) :
    W.cell? ⟨R, 0, none⟩ = some x0 ∧ W.cell? ⟨R, 1, none⟩ = some x1 ∧ W.cell? ⟨R, 2, none⟩ = some x2 ∧ W.cell? ⟨R, 3, none⟩ = some x3 ∧ W.cell? ⟨R, 4, none⟩ = some x4 :=
  ⟨cell_of_block h 0 _ rfl, cell_of_block h 1 _ rfl, cell_of_block h 2 _ rfl, cell_of_block h 3 _ rfl, cell_of_block h 4 _ rfl⟩
theorem frozen5' {W : World} {R : Nat} {T : TypeId} {cs : Array Value} (h : W.heap[R]? = some (.cells cs T)) :
    W.frozen? ⟨R, 0, none⟩ = false ∧ W.frozen? ⟨R, 1, none⟩ = false ∧ W.frozen? ⟨R, 2, none⟩ = false ∧ W.frozen? ⟨R, 3, none⟩ = false ∧ W.frozen? ⟨R, 4, none⟩ = false :=
  ⟨frozen_block h 0, frozen_block h 1, frozen_block h 2, frozen_block h 3, frozen_block h 4⟩
theorem elemStrs : ElemT 22 75 24 := ⟨Try.underlying75, _, _, rfl, rfl, rfl, rfl, rfl⟩

set_option maxRecDepth 100000 in
set_option maxHeartbeats 8000000 in
theorem law4_Of (v : Value) (d : Dat) (w : World) (hA : DatAt w v d) (hk : d.names.length ≤ 1048576) :
    Calls Try.prog 71 #[v] w fun e w' => ∃ v', e = .returned v' ∧ DatAt w' v' d ∧ Below w.heap.size w w' := by
  obtain ⟨vn, vu, vt, vr, rfl, ⟨vs, s1, sl, s2⟩, a2, a3, a4⟩ := hA
  obtain ⟨an, ca, rfl, _⟩ := id s1
  obtain ⟨bn, cb, rfl, _⟩ := id a2
  obtain ⟨tn, ct, rfl, _⟩ := id a3.1
  obtain ⟨rn, cr, rfl, _⟩ := id a4
  obtain ⟨ss, hss⟩ := sl_list vs (fun x hx => by obtain ⟨j, hj, rfl⟩ := List.mem_iff_getElem.1 hx; exact (s2 j hj).sl)
  subst hss
  have HA2 := Lib.hid a2; have HA3 := Lib.hid a3; have HA4 := Lib.hid a4
  have hNA : ∀ j (_ : j < (ss.map slEnc).length) (h2 : j < d.names.length), NmAt w (ss.map slEnc)[j] d.names[j] := fun j h1 _ => s2 j h1
  have HNA := Lib.hid hNA
  have HCA := Lib.hid (fun W (hb : Below w.heap.size w W) j (hj : j < (ss.map slEnc).length) => s1.cell hb j hj)
  clear s1 s2 a2 a3 a4 hNA
  rw [List.length_map] at sl
  rw [List.length_map, List.length_map, List.length_map]
  obtain ⟨n1, e1⟩ : ∃ n, ss.length = n := ⟨_, rfl⟩
  obtain ⟨n2, e2⟩ : ∃ n, d.nums.length = n := ⟨_, rfl⟩
  obtain ⟨n3, e3⟩ : ∃ n, d.texts.length = n := ⟨_, rfl⟩
  obtain ⟨n4, e4⟩ : ∃ n, d.raw.length = n := ⟨_, rfl⟩
  rw [List.length_map, e2] at HA2
  rw [e3] at HA3
  rw [List.length_map, e4] at HA4
  rw [e1, e2, e3, e4]
  have hn1 : n1 ≤ 1048576 := by omega
  have E1 := Lib.hid e1; have SL := Lib.hid sl
  clear e1 e2 e3 e4 sl hk
  go_enter Try.func71, Try.ntmps71
  go_upto_block 0 with fail
  have hW : ∀ W0, (((w.alloc (.cells #[.int .i64 d.ty, .slice an n1 ca, .slice bn n2 cb, .slice tn n3 ct, .slice rn n4 cr] 48)).alloc (.cells #[.int .i64 0, .slice none 0 0, .slice none 0 0, .slice none 0 0, .slice none 0 0] 77)).alloc (.cells #[.int .i64 d.ty, .slice none 0 0, .slice bn n2 cb, .slice tn n3 ct, .slice rn n4 cr] 77)) = W0 → Below w.heap.size w W0 ∧ (∀ (j : Nat) (z : Value), [Value.int .i64 d.ty, .slice an n1 ca, .slice bn n2 cb, .slice tn n3 ct, .slice rn n4 cr][j]? = some z → W0.cell? ⟨w.heap.size, j, none⟩ = some z) ∧ W0.heap[w.heap.size + 1]? = some (.cells #[.int .i64 0, .slice none 0 0, .slice none 0 0, .slice none 0 0, .slice none 0 0] 77) ∧ W0.heap[w.heap.size + 1 + 1]? = some (.cells #[.int .i64 d.ty, .slice none 0 0, .slice bn n2 cb, .slice tn n3 ct, .slice rn n4 cr] 77) := by
    rintro W0 rfl
    have hz1 : (w.alloc (.cells #[.int .i64 d.ty, .slice an n1 ca, .slice bn n2 cb, .slice tn n3 ct, .slice rn n4 cr] 48)).heap.size = w.heap.size + 1 := by simp
    have hz2 : ((w.alloc (.cells #[.int .i64 d.ty, .slice an n1 ca, .slice bn n2 cb, .slice tn n3 ct, .slice rn n4 cr] 48)).alloc (.cells #[.int .i64 0, .slice none 0 0, .slice none 0 0, .slice none 0 0, .slice none 0 0] 77)).heap.size = w.heap.size + 1 + 1 := by simp
    have e0 := new_at w [.int .i64 d.ty, .slice an n1 ca, .slice bn n2 cb, .slice tn n3 ct, .slice rn n4 cr] 48
    have e1 := block_new (w.alloc (.cells #[.int .i64 d.ty, .slice an n1 ca, .slice bn n2 cb, .slice tn n3 ct, .slice rn n4 cr] 48)) (.cells #[.int .i64 0, .slice none 0 0, .slice none 0 0, .slice none 0 0, .slice none 0 0] 77)
    have e2 := block_new ((w.alloc (.cells #[.int .i64 d.ty, .slice an n1 ca, .slice bn n2 cb, .slice tn n3 ct, .slice rn n4 cr] 48)).alloc (.cells #[.int .i64 0, .slice none 0 0, .slice none 0 0, .slice none 0 0, .slice none 0 0] 77)) (.cells #[.int .i64 d.ty, .slice none 0 0, .slice bn n2 cb, .slice tn n3 ct, .slice rn n4 cr] 77)
    rw [hz1] at e1
    rw [hz2] at e2
    have b1 : Below (w.heap.size + 1) (w.alloc (.cells #[.int .i64 d.ty, .slice an n1 ca, .slice bn n2 cb, .slice tn n3 ct, .slice rn n4 cr] 48)) (((w.alloc (.cells #[.int .i64 d.ty, .slice an n1 ca, .slice bn n2 cb, .slice tn n3 ct, .slice rn n4 cr] 48)).alloc (.cells #[.int .i64 0, .slice none 0 0, .slice none 0 0, .slice none 0 0, .slice none 0 0] 77)).alloc (.cells #[.int .i64 d.ty, .slice none 0 0, .slice bn n2 cb, .slice tn n3 ct, .slice rn n4 cr] 77)) := ((Below.refl _ _).alloc (by simp) _).alloc (by simp) _
    have b2 : Below (w.heap.size + 1 + 1) ((w.alloc (.cells #[.int .i64 d.ty, .slice an n1 ca, .slice bn n2 cb, .slice tn n3 ct, .slice rn n4 cr] 48)).alloc (.cells #[.int .i64 0, .slice none 0 0, .slice none 0 0, .slice none 0 0, .slice none 0 0] 77)) (((w.alloc (.cells #[.int .i64 d.ty, .slice an n1 ca, .slice bn n2 cb, .slice tn n3 ct, .slice rn n4 cr] 48)).alloc (.cells #[.int .i64 0, .slice none 0 0, .slice none 0 0, .slice none 0 0, .slice none 0 0] 77)).alloc (.cells #[.int .i64 d.ty, .slice none 0 0, .slice bn n2 cb, .slice tn n3 ct, .slice rn n4 cr] 77)) := (Below.refl _ _).alloc (by simp) _
    refine ⟨(((Below.refl _ w).alloc (Nat.le_refl _) _).alloc (by simp) _).alloc (by simp; omega) _, fun j z h => (b1.cell (p := ⟨w.heap.size, j, none⟩) (Nat.lt_succ_self _)).trans (e0 j z h), (b2.block _ (Nat.lt_succ_self _)).trans e1, e2⟩
  generalize hW0 : (((w.alloc (.cells #[.int .i64 d.ty, .slice an n1 ca, .slice bn n2 cb, .slice tn n3 ct, .slice rn n4 cr] 48)).alloc (.cells #[.int .i64 0, .slice none 0 0, .slice none 0 0, .slice none 0 0, .slice none 0 0] 77)).alloc (.cells #[.int .i64 d.ty, .slice none 0 0, .slice bn n2 cb, .slice tn n3 ct, .slice rn n4 cr] 77)) = W0
  obtain ⟨k1, k2, k3, k4⟩ := hW W0 hW0
  clear hW hW0
  have K1 := Lib.hid k1; have K2 := Lib.hid k2; have K3 := Lib.hid k3; have K4 := Lib.hid k4
  clear k1 k2 k3 k4
  go_wp2_with fail
  go_loopw [4] (fun i wr => ∃ (k : Nat) (a : Option Addr) (c : Nat), i = .int .i64 k ∧ k ≤ n1 ∧ Hid (OwnG 22 slEnc wr (w.heap.size + 3) (.slice a k c) (ss.take k)) ∧ Hid (wr.heap[w.heap.size + 1 + 1]? = some (.cells #[.int .i64 d.ty, .slice a k c, .slice bn n2 cb, .slice tn n3 ct, .slice rn n4 cr] 77)) ∧ Hid (Below (w.heap.size + 2) W0 wr)) (fun i _ => n1 - (intOf i).toNat)
  case atStart => exact ⟨0, none, 0, rfl, Nat.zero_le _, Lib.hid (OwnG.nil _ _), K4, Lib.hid (Below.refl _ _)⟩
  case round =>
    obtain ⟨k, a, c, rfl, hkn, HOW, HBX, HB⟩ := hrel
    have hx1 := (HB.out.cell (p := ⟨w.heap.size, 1, none⟩) (by show w.heap.size < _; omega)).trans (K2.out 1 _ rfl)
    have hx3 := cell_of_block HBX.out 1 _ rfl
    have hB0 := K1.out.trans (HB.out.mono (by omega))
    have hsz := block_lt HBX.out
    by_cases hlt : k < n1
    · have hks : k < ss.length := by rw [E1.out]; exact hlt
      obtain ⟨g, off, rfl, hg, hc⟩ := HCA.out wr hB0 k (by rw [List.length_map]; exact hks)
      rw [List.getElem_map] at hc
      have HTK := Lib.hid (show ss.take (k + 1) = ss.take k ++ [ss[k]] from List.take_succ_eq_append_getElem hks)
      obtain ⟨⟨pa, pn, pc⟩, hp⟩ : ∃ s, ss[k] = s := ⟨_, rfl⟩
      rw [hp] at hc HTK
      unfold slEnc at hc
      simp only at hc
      have hkn1 : (0 : Int) ≤ (k : Int) := by omega
      have hkn2 : (k : Int) < (n1 : Int) := by omega
      have HH := Lib.hid (And.intro hg (And.intro hsz hlt))
      obtain ⟨ht0, i0, zz, hi, hz0, hz1, hz2, hzc⟩ := elemStrs
      have hown2 : wr.ownsRow (w.heap.size + 3) 22 1 (.slice a k c) k ((ss.take k).map slEnc) := by
        have h := HOW.out
        unfold OwnG at h
        rw [List.length_take, Nat.min_eq_left (by omega)] at h
        exact h
      have HOB := Lib.hid HOW.out.base_le
      have hAw : ∀ W, Below wr.heap.size wr W → W.cell? ⟨w.heap.size, 1, none⟩ = some (.slice (some ⟨g, off, none⟩) n1 ca) ∧ W.cell? ⟨g, off + k, none⟩ = some (.slice pa pn pc) ∧ W.cell? ⟨w.heap.size + 1 + 1, 1, none⟩ = some (.slice a k c) := fun W hb =>
        ⟨(hb.cell (p := ⟨w.heap.size, 1, none⟩) (by show w.heap.size < _; omega)).trans hx1, (hb.cell (p := ⟨g, off + k, none⟩) (by show g < _; omega)).trans hc, (hb.cell (p := ⟨w.heap.size + 1 + 1, 1, none⟩) hsz).trans hx3⟩
      obtain ⟨da1, da2, da3⟩ := hAw wr.drew (below_drew1 (Below.refl _ _))
      obtain ⟨db1, db2, db3⟩ := hAw (wr.drew.alloc (.cells #[.slice pa pn pc] 22)) ((below_drew1 (Below.refl _ _)).alloc (Nat.le_refl _) _)
      have HBY : Hid ((wr.drew.alloc (.cells #[.slice pa pn pc] 22)).heap[w.heap.size + 1 + 1]? = some (.cells #[.int .i64 d.ty, .slice a k c, .slice bn n2 cb, .slice tn n3 ct, .slice rn n4 cr] 77)) := Lib.hid ((((below_drew1 (Below.refl wr.heap.size wr)).alloc (Nat.le_refl _) _).block _ hsz).trans HBX.out)
      have HOY : Hid (OwnG 22 slEnc (wr.drew.alloc (.cells #[.slice pa pn pc] 22)) (w.heap.size + 3) (.slice a k c) (ss.take k)) := Lib.hid (HOW.out.drew.alloc _)
      have HH := Lib.hid (And.intro hg (And.intro hsz hlt))
      clear hp hks hB0 hg hlt hAw
      go_wp2_with fail
      go_region_law (first
        | (refine step_append_lies _ (by rfl) _ _ _ (by rfl) (w.heap.size + 3) 22 i0 zz 1 24 ht0 hi hz0 hz1 hz2 hzc (by omega) (.slice a k c) k ((ss.take k).map slEnc) (by rfl) ((hown2.drew).alloc _)
            ⟨wr.heap.size, 0, none⟩ 1 1 [.slice pa pn pc] (by rfl) (by rfl) (World.news_of_block (cs := #[.slice pa pn pc]) (t := 22) (fr := (0, 0)) (heap_alloc_new wr _)) (by simp [Value.oneCell'])
            (by omega) (by unfold maxLen; omega) (by omega) (by simp; omega) (wr.heap.size + 1) (by simp) ?_; intro gg cap w6 hown6 hgrow hat hlt6; have hbx6 := Lib.hid ((hgrow.block (w.heap.size + 1 + 1) (block_lt HBY.out) (HOY.out.ne_block HBY.out (by decide))).trans HBY.out); have hc6 := cell_of_block hbx6.out 1 _ rfl; have hf6 := frozen_block hbx6.out 1))
      all_goals
        have HO6 := Lib.hid (show OwnG 22 slEnc (w6.setCell ⟨w.heap.size + 1 + 1, 1, none⟩ (.slice (some ⟨gg, 0, none⟩) (k + 1) cap)) (w.heap.size + 3) (.slice (some ⟨gg, 0, none⟩) (k + 1) cap) (ss.take (k + 1)) from by
          refine OwnG.keptB (cs := #[.int .i64 d.ty, .slice a k c, .slice bn n2 cb, .slice tn n3 ct, .slice rn n4 cr]) (t := 77) ?_ hbx6.out (by decide) 1 _
          unfold OwnG
          rw [HTK.out, List.length_append, List.map_append, List.length_take, Nat.min_eq_left (by have := HH.out.2.2; have := E1.out; omega)]
          exact hown6)
        have HX6 := Lib.hid (show (w6.setCell ⟨w.heap.size + 1 + 1, 1, none⟩ (.slice (some ⟨gg, 0, none⟩) (k + 1) cap)).heap[w.heap.size + 1 + 1]? = some (.cells #[.int .i64 d.ty, .slice (some ⟨gg, 0, none⟩) (k + 1) cap, .slice bn n2 cb, .slice tn n3 ct, .slice rn n4 cr] 77) from block_set hbx6.out 1 _)
        have HB6 := Lib.hid (show Below (w.heap.size + 2) W0 (w6.setCell ⟨w.heap.size + 1 + 1, 1, none⟩ (.slice (some ⟨gg, 0, none⟩) (k + 1) cap)) from
          HB.out.trans ((((below_drew1 (Below.refl (w.heap.size + 2) wr)).alloc (by show w.heap.size + 2 ≤ wr.heap.size; omega) _).grown hgrow (by simp; omega) (fun x e => by have := HOB.out x e; omega)).setCell (p := ⟨w.heap.size + 1 + 1, 1, none⟩) (by show w.heap.size + 2 ≤ w.heap.size + 1 + 1; omega) _))
        have hltk := HH.out.2.2
        clear hown6 hgrow hat hlt6 hc6 hf6 hown2 da1 da2 da3 db1 db2 db3 hx1 hx3 hc
        go_wp2_with fail
        go_roundw
        case rel => exact ⟨k + 1, some ⟨gg, 0, none⟩, cap, by go_num, by omega, HO6, HX6, HB6⟩
        case measure => simp [intOf]; omega
    · obtain rfl : k = n1 := by omega
      have hkn3 : ¬ (k : Int) < (k : Int) := by omega
      have hR := (HB.out.block (w.heap.size + 1) (by omega)).trans K3.out
      obtain ⟨r0, r1, r2, r3, r4⟩ := cells5' HBX.out
      obtain ⟨f0, f1, f2, f3, f4⟩ := frozen5' hR
      obtain ⟨s0, s1, s2, s3, s4⟩ := cells5' hR
      have HR := Lib.hid hR
      have HB0 := Lib.hid hB0
      obtain ⟨q0, q1, q2, q3, q4⟩ := cells5' (set5_block' hR (.int .i64 d.ty) (.slice a k c) (.slice bn n2 cb) (.slice tn n3 ct) (.slice rn n4 cr))
      unfold set5 at q0 q1 q2 q3 q4
      clear hR hB0 hx3 hsz
      go_wp2_with fail
      refine bodyPost_ret (v := .agg #[.int .i64 d.ty, .slice a k c, .slice bn n2 cb, .slice tn n3 ct, .slice rn n4 cr]) (by simp [results, Try.results71, go_sem, q0, q1, q2, q3, q4]) rfl ⟨_, rfl, ?_, ?_⟩
      · have hb9 : Below w.heap.size w (set5 wr (w.heap.size + 1) (.int .i64 d.ty) (.slice a k c) (.slice bn n2 cb) (.slice tn n3 ct) (.slice rn n4 cr)) := HB0.out.trans ((set5_below (Below.refl (w.heap.size + 1) wr) _ _ _ _ _).mono (by omega))
        have ho := ownG_set5 HR.out (.int .i64 d.ty) (.slice a k c) (.slice bn n2 cb) (.slice tn n3 ct) (.slice rn n4 cr) (by decide) HOW.out
        refine ⟨_, _, _, _, rfl, ⟨ss.map slEnc, ?_, by rw [List.length_map]; exact SL.out, fun j hj => (HNA.out j hj _).below hb9⟩, HA2.out.below hb9, HA3.out.below hb9, HA4.out.below hb9⟩
        have ht : ss.take k = ss := List.take_of_length_le (by rw [E1.out]; exact Nat.le_refl _)
        rw [ht] at ho
        exact SlAt.of_own ho
      · exact HB0.out.trans ((set5_below (Below.refl (w.heap.size + 1) wr) _ _ _ _ _).mono (by omega))
end Go.Proofs.Yteppgeiejknhoaa

/-
  law4.Of: what its answer is made of. (Written by wip/tools/genofs.py from XDatN2.)
-/
namespace Go.Proofs.Yteppgeiejknhoaa
set_option maxRecDepth 20000
open Go.RowKit Go.Shelf
set_option maxRecDepth 20000
set_option linter.unusedVariables false
set_option linter.unusedSimpArgs false

def OfPostS (w0 : World) (v : Value) (d : Dat) (w : World) (e : Ending) (w' : World) : Prop :=
  ∃ vn vn' vu vt vr, ∃ ss : List SlV, v = .agg #[.int .i64 d.ty, vn, vu, vt, vr] ∧ e = .returned (.agg #[.int .i64 d.ty, vn', vu, vt, vr]) ∧ OwnG 22 slEnc w' w.heap.size vn' ss ∧ ss.length = d.names.length ∧
    (∀ j (h1 : j < ss.length) (h2 : j < d.names.length), NmAt w0 (slEnc ss[j]) d.names[j]) ∧ SlAt w0 vu (d.nums.map u32V) ∧ NmAt w0 vt d.texts ∧ SlAt w0 vr (d.raw.map bv) ∧ Below w.heap.size w w'
set_option maxRecDepth 100000 in
set_option maxHeartbeats 8000000 in
theorem law4_OfS (w0 : World) (v : Value) (d : Dat) (w : World) (hA : DatAt w0 v d) (hwz : Below w0.heap.size w0 w) (hk : d.names.length ≤ 1048576) :
    Calls Try.prog 71 #[v] w (OfPostS w0 v d w) := by
  obtain ⟨vn, vu, vt, vr, rfl, ⟨vs, s1, sl, s2⟩, a2, a3, a4⟩ := hA
  obtain ⟨an, ca, rfl, _⟩ := id s1
  obtain ⟨bn, cb, rfl, _⟩ := id a2
  obtain ⟨tn, ct, rfl, _⟩ := id a3.1
  obtain ⟨rn, cr, rfl, _⟩ := id a4
  obtain ⟨ss, hss⟩ := sl_list vs (fun x hx => by obtain ⟨j, hj, rfl⟩ := List.mem_iff_getElem.1 hx; exact (s2 j hj).sl)
  subst hss
  have HA2 := Lib.hid a2; have HA3 := Lib.hid a3; have HA4 := Lib.hid a4
  have hNA : ∀ j (_ : j < (ss.map slEnc).length) (h2 : j < d.names.length), NmAt w0 (ss.map slEnc)[j] d.names[j] := fun j h1 _ => s2 j h1
  have HNA := Lib.hid hNA
  have HCA := Lib.hid (fun W (hb : Below w.heap.size w W) j (hj : j < (ss.map slEnc).length) => (s1.below hwz).cell hb j hj)
  clear s1 s2 a2 a3 a4 hNA hwz
  rw [List.length_map] at sl
  rw [List.length_map, List.length_map, List.length_map]
  obtain ⟨n1, e1⟩ : ∃ n, ss.length = n := ⟨_, rfl⟩
  obtain ⟨n2, e2⟩ : ∃ n, d.nums.length = n := ⟨_, rfl⟩
  obtain ⟨n3, e3⟩ : ∃ n, d.texts.length = n := ⟨_, rfl⟩
  obtain ⟨n4, e4⟩ : ∃ n, d.raw.length = n := ⟨_, rfl⟩
  rw [List.length_map, e2] at HA2
  rw [e3] at HA3
  rw [List.length_map, e4] at HA4
  rw [e1, e2, e3, e4]
  have hn1 : n1 ≤ 1048576 := by omega
  have E1 := Lib.hid e1; have SL := Lib.hid sl
  clear e1 e2 e3 e4 sl hk
  go_enter Try.func71, Try.ntmps71
  go_upto_block 0 with fail
  have hW : ∀ W0, (((w.alloc (.cells #[.int .i64 d.ty, .slice an n1 ca, .slice bn n2 cb, .slice tn n3 ct, .slice rn n4 cr] 48)).alloc (.cells #[.int .i64 0, .slice none 0 0, .slice none 0 0, .slice none 0 0, .slice none 0 0] 77)).alloc (.cells #[.int .i64 d.ty, .slice none 0 0, .slice bn n2 cb, .slice tn n3 ct, .slice rn n4 cr] 77)) = W0 → Below w.heap.size w W0 ∧ (∀ (j : Nat) (z : Value), [Value.int .i64 d.ty, .slice an n1 ca, .slice bn n2 cb, .slice tn n3 ct, .slice rn n4 cr][j]? = some z → W0.cell? ⟨w.heap.size, j, none⟩ = some z) ∧ W0.heap[w.heap.size + 1]? = some (.cells #[.int .i64 0, .slice none 0 0, .slice none 0 0, .slice none 0 0, .slice none 0 0] 77) ∧ W0.heap[w.heap.size + 1 + 1]? = some (.cells #[.int .i64 d.ty, .slice none 0 0, .slice bn n2 cb, .slice tn n3 ct, .slice rn n4 cr] 77) := by
    rintro W0 rfl
    have hz1 : (w.alloc (.cells #[.int .i64 d.ty, .slice an n1 ca, .slice bn n2 cb, .slice tn n3 ct, .slice rn n4 cr] 48)).heap.size = w.heap.size + 1 := by simp
    have hz2 : ((w.alloc (.cells #[.int .i64 d.ty, .slice an n1 ca, .slice bn n2 cb, .slice tn n3 ct, .slice rn n4 cr] 48)).alloc (.cells #[.int .i64 0, .slice none 0 0, .slice none 0 0, .slice none 0 0, .slice none 0 0] 77)).heap.size = w.heap.size + 1 + 1 := by simp
    have e0 := new_at w [.int .i64 d.ty, .slice an n1 ca, .slice bn n2 cb, .slice tn n3 ct, .slice rn n4 cr] 48
    have e1 := block_new (w.alloc (.cells #[.int .i64 d.ty, .slice an n1 ca, .slice bn n2 cb, .slice tn n3 ct, .slice rn n4 cr] 48)) (.cells #[.int .i64 0, .slice none 0 0, .slice none 0 0, .slice none 0 0, .slice none 0 0] 77)
    have e2 := block_new ((w.alloc (.cells #[.int .i64 d.ty, .slice an n1 ca, .slice bn n2 cb, .slice tn n3 ct, .slice rn n4 cr] 48)).alloc (.cells #[.int .i64 0, .slice none 0 0, .slice none 0 0, .slice none 0 0, .slice none 0 0] 77)) (.cells #[.int .i64 d.ty, .slice none 0 0, .slice bn n2 cb, .slice tn n3 ct, .slice rn n4 cr] 77)
    rw [hz1] at e1
    rw [hz2] at e2
    have b1 : Below (w.heap.size + 1) (w.alloc (.cells #[.int .i64 d.ty, .slice an n1 ca, .slice bn n2 cb, .slice tn n3 ct, .slice rn n4 cr] 48)) (((w.alloc (.cells #[.int .i64 d.ty, .slice an n1 ca, .slice bn n2 cb, .slice tn n3 ct, .slice rn n4 cr] 48)).alloc (.cells #[.int .i64 0, .slice none 0 0, .slice none 0 0, .slice none 0 0, .slice none 0 0] 77)).alloc (.cells #[.int .i64 d.ty, .slice none 0 0, .slice bn n2 cb, .slice tn n3 ct, .slice rn n4 cr] 77)) := ((Below.refl _ _).alloc (by simp) _).alloc (by simp) _
    have b2 : Below (w.heap.size + 1 + 1) ((w.alloc (.cells #[.int .i64 d.ty, .slice an n1 ca, .slice bn n2 cb, .slice tn n3 ct, .slice rn n4 cr] 48)).alloc (.cells #[.int .i64 0, .slice none 0 0, .slice none 0 0, .slice none 0 0, .slice none 0 0] 77)) (((w.alloc (.cells #[.int .i64 d.ty, .slice an n1 ca, .slice bn n2 cb, .slice tn n3 ct, .slice rn n4 cr] 48)).alloc (.cells #[.int .i64 0, .slice none 0 0, .slice none 0 0, .slice none 0 0, .slice none 0 0] 77)).alloc (.cells #[.int .i64 d.ty, .slice none 0 0, .slice bn n2 cb, .slice tn n3 ct, .slice rn n4 cr] 77)) := (Below.refl _ _).alloc (by simp) _
    refine ⟨(((Below.refl _ w).alloc (Nat.le_refl _) _).alloc (by simp) _).alloc (by simp; omega) _, fun j z h => (b1.cell (p := ⟨w.heap.size, j, none⟩) (Nat.lt_succ_self _)).trans (e0 j z h), (b2.block _ (Nat.lt_succ_self _)).trans e1, e2⟩
  generalize hW0 : (((w.alloc (.cells #[.int .i64 d.ty, .slice an n1 ca, .slice bn n2 cb, .slice tn n3 ct, .slice rn n4 cr] 48)).alloc (.cells #[.int .i64 0, .slice none 0 0, .slice none 0 0, .slice none 0 0, .slice none 0 0] 77)).alloc (.cells #[.int .i64 d.ty, .slice none 0 0, .slice bn n2 cb, .slice tn n3 ct, .slice rn n4 cr] 77)) = W0
  obtain ⟨k1, k2, k3, k4⟩ := hW W0 hW0
  clear hW hW0
  have K1 := Lib.hid k1; have K2 := Lib.hid k2; have K3 := Lib.hid k3; have K4 := Lib.hid k4
  clear k1 k2 k3 k4
  go_wp2_with fail
  go_loopw [4] (fun i wr => ∃ (k : Nat) (a : Option Addr) (c : Nat), i = .int .i64 k ∧ k ≤ n1 ∧ Hid (OwnG 22 slEnc wr (w.heap.size + 3) (.slice a k c) (ss.take k)) ∧ Hid (wr.heap[w.heap.size + 1 + 1]? = some (.cells #[.int .i64 d.ty, .slice a k c, .slice bn n2 cb, .slice tn n3 ct, .slice rn n4 cr] 77)) ∧ Hid (Below (w.heap.size + 2) W0 wr)) (fun i _ => n1 - (intOf i).toNat)
  case atStart => exact ⟨0, none, 0, rfl, Nat.zero_le _, Lib.hid (OwnG.nil _ _), K4, Lib.hid (Below.refl _ _)⟩
  case round =>
    obtain ⟨k, a, c, rfl, hkn, HOW, HBX, HB⟩ := hrel
    have hx1 := (HB.out.cell (p := ⟨w.heap.size, 1, none⟩) (by show w.heap.size < _; omega)).trans (K2.out 1 _ rfl)
    have hx3 := cell_of_block HBX.out 1 _ rfl
    have hB0 := K1.out.trans (HB.out.mono (by omega))
    have hsz := block_lt HBX.out
    by_cases hlt : k < n1
    · have hks : k < ss.length := by rw [E1.out]; exact hlt
      obtain ⟨g, off, rfl, hg, hc⟩ := HCA.out wr hB0 k (by rw [List.length_map]; exact hks)
      rw [List.getElem_map] at hc
      have HTK := Lib.hid (show ss.take (k + 1) = ss.take k ++ [ss[k]] from List.take_succ_eq_append_getElem hks)
      obtain ⟨⟨pa, pn, pc⟩, hp⟩ : ∃ s, ss[k] = s := ⟨_, rfl⟩
      rw [hp] at hc HTK
      unfold slEnc at hc
      simp only at hc
      have hkn1 : (0 : Int) ≤ (k : Int) := by omega
      have hkn2 : (k : Int) < (n1 : Int) := by omega
      have HH := Lib.hid (And.intro hg (And.intro hsz hlt))
      obtain ⟨ht0, i0, zz, hi, hz0, hz1, hz2, hzc⟩ := elemStrs
      have hown2 : wr.ownsRow (w.heap.size + 3) 22 1 (.slice a k c) k ((ss.take k).map slEnc) := by
        have h := HOW.out
        unfold OwnG at h
        rw [List.length_take, Nat.min_eq_left (by omega)] at h
        exact h
      have HOB := Lib.hid HOW.out.base_le
      have hAw : ∀ W, Below wr.heap.size wr W → W.cell? ⟨w.heap.size, 1, none⟩ = some (.slice (some ⟨g, off, none⟩) n1 ca) ∧ W.cell? ⟨g, off + k, none⟩ = some (.slice pa pn pc) ∧ W.cell? ⟨w.heap.size + 1 + 1, 1, none⟩ = some (.slice a k c) := fun W hb =>
        ⟨(hb.cell (p := ⟨w.heap.size, 1, none⟩) (by show w.heap.size < _; omega)).trans hx1, (hb.cell (p := ⟨g, off + k, none⟩) (by show g < _; omega)).trans hc, (hb.cell (p := ⟨w.heap.size + 1 + 1, 1, none⟩) hsz).trans hx3⟩
      obtain ⟨da1, da2, da3⟩ := hAw wr.drew (below_drew1 (Below.refl _ _))
      obtain ⟨db1, db2, db3⟩ := hAw (wr.drew.alloc (.cells #[.slice pa pn pc] 22)) ((below_drew1 (Below.refl _ _)).alloc (Nat.le_refl _) _)
      have HBY : Hid ((wr.drew.alloc (.cells #[.slice pa pn pc] 22)).heap[w.heap.size + 1 + 1]? = some (.cells #[.int .i64 d.ty, .slice a k c, .slice bn n2 cb, .slice tn n3 ct, .slice rn n4 cr] 77)) := Lib.hid ((((below_drew1 (Below.refl wr.heap.size wr)).alloc (Nat.le_refl _) _).block _ hsz).trans HBX.out)
      have HOY : Hid (OwnG 22 slEnc (wr.drew.alloc (.cells #[.slice pa pn pc] 22)) (w.heap.size + 3) (.slice a k c) (ss.take k)) := Lib.hid (HOW.out.drew.alloc _)
      have HH := Lib.hid (And.intro hg (And.intro hsz hlt))
      clear hp hks hB0 hg hlt hAw
      go_wp2_with fail
      go_region_law (first
        | (refine step_append_lies _ (by rfl) _ _ _ (by rfl) (w.heap.size + 3) 22 i0 zz 1 24 ht0 hi hz0 hz1 hz2 hzc (by omega) (.slice a k c) k ((ss.take k).map slEnc) (by rfl) ((hown2.drew).alloc _)
            ⟨wr.heap.size, 0, none⟩ 1 1 [.slice pa pn pc] (by rfl) (by rfl) (World.news_of_block (cs := #[.slice pa pn pc]) (t := 22) (fr := (0, 0)) (heap_alloc_new wr _)) (by simp [Value.oneCell'])
            (by omega) (by unfold maxLen; omega) (by omega) (by simp; omega) (wr.heap.size + 1) (by simp) ?_; intro gg cap w6 hown6 hgrow hat hlt6; have hbx6 := Lib.hid ((hgrow.block (w.heap.size + 1 + 1) (block_lt HBY.out) (HOY.out.ne_block HBY.out (by decide))).trans HBY.out); have hc6 := cell_of_block hbx6.out 1 _ rfl; have hf6 := frozen_block hbx6.out 1))
      all_goals
        have HO6 := Lib.hid (show OwnG 22 slEnc (w6.setCell ⟨w.heap.size + 1 + 1, 1, none⟩ (.slice (some ⟨gg, 0, none⟩) (k + 1) cap)) (w.heap.size + 3) (.slice (some ⟨gg, 0, none⟩) (k + 1) cap) (ss.take (k + 1)) from by
          refine OwnG.keptB (cs := #[.int .i64 d.ty, .slice a k c, .slice bn n2 cb, .slice tn n3 ct, .slice rn n4 cr]) (t := 77) ?_ hbx6.out (by decide) 1 _
          unfold OwnG
          rw [HTK.out, List.length_append, List.map_append, List.length_take, Nat.min_eq_left (by have := HH.out.2.2; have := E1.out; omega)]
          exact hown6)
        have HX6 := Lib.hid (show (w6.setCell ⟨w.heap.size + 1 + 1, 1, none⟩ (.slice (some ⟨gg, 0, none⟩) (k + 1) cap)).heap[w.heap.size + 1 + 1]? = some (.cells #[.int .i64 d.ty, .slice (some ⟨gg, 0, none⟩) (k + 1) cap, .slice bn n2 cb, .slice tn n3 ct, .slice rn n4 cr] 77) from block_set hbx6.out 1 _)
        have HB6 := Lib.hid (show Below (w.heap.size + 2) W0 (w6.setCell ⟨w.heap.size + 1 + 1, 1, none⟩ (.slice (some ⟨gg, 0, none⟩) (k + 1) cap)) from
          HB.out.trans ((((below_drew1 (Below.refl (w.heap.size + 2) wr)).alloc (by show w.heap.size + 2 ≤ wr.heap.size; omega) _).grown hgrow (by simp; omega) (fun x e => by have := HOB.out x e; omega)).setCell (p := ⟨w.heap.size + 1 + 1, 1, none⟩) (by show w.heap.size + 2 ≤ w.heap.size + 1 + 1; omega) _))
        have hltk := HH.out.2.2
        clear hown6 hgrow hat hlt6 hc6 hf6 hown2 da1 da2 da3 db1 db2 db3 hx1 hx3 hc
        go_wp2_with fail
        go_roundw
        case rel => exact ⟨k + 1, some ⟨gg, 0, none⟩, cap, by go_num, by omega, HO6, HX6, HB6⟩
        case measure => simp [intOf]; omega
    · obtain rfl : k = n1 := by omega
      have hkn3 : ¬ (k : Int) < (k : Int) := by omega
      have hR := (HB.out.block (w.heap.size + 1) (by omega)).trans K3.out
      obtain ⟨r0, r1, r2, r3, r4⟩ := cells5' HBX.out
      obtain ⟨f0, f1, f2, f3, f4⟩ := frozen5' hR
      obtain ⟨s0, s1, s2, s3, s4⟩ := cells5' hR
      have HR := Lib.hid hR
      have HB0 := Lib.hid hB0
      obtain ⟨q0, q1, q2, q3, q4⟩ := cells5' (set5_block' hR (.int .i64 d.ty) (.slice a k c) (.slice bn n2 cb) (.slice tn n3 ct) (.slice rn n4 cr))
      unfold set5 at q0 q1 q2 q3 q4
      clear hR hB0 hx3 hsz
      go_wp2_with fail
      refine bodyPost_ret (v := .agg #[.int .i64 d.ty, .slice a k c, .slice bn n2 cb, .slice tn n3 ct, .slice rn n4 cr]) (by simp [results, Try.results71, go_sem, q0, q1, q2, q3, q4]) rfl ?_
      have ho := ownG_set5 HR.out (.int .i64 d.ty) (.slice a k c) (.slice bn n2 cb) (.slice tn n3 ct) (.slice rn n4 cr) (by decide) HOW.out
      have ht : ss.take k = ss := List.take_of_length_le (by rw [E1.out]; exact Nat.le_refl _)
      rw [ht] at ho
      exact ⟨_, _, _, _, _, ss, rfl, rfl, ho.weaken (by omega), SL.out, fun j h1 h2 => (by have h := HNA.out j (by rw [List.length_map]; exact h1) h2; rw [List.getElem_map] at h; exact h), HA2.out, HA3.out, HA4.out, HB0.out.trans ((set5_below (Below.refl (w.heap.size + 1) wr) _ _ _ _ _).mono (by omega))⟩
end Go.Proofs.Yteppgeiejknhoaa

/-
  rec.Check; the closure of rec.SameRow.
-/
namespace Go.Proofs.Yteppgeiejknhoaa
set_option maxRecDepth 20000
open Go.RowKit Go.Shelf
set_option maxRecDepth 20000
set_option linter.unusedVariables false
set_option linter.unusedSimpArgs false

/-- P501's Check. -/
def checkR (r : Rc) : Int := if checkN r.owner ≠ 0 then checkN r.owner else if 2147483647 < r.ttl then 7 else checkD r.data

/-- Alike with their TTLs. -/
def twinR (a b : Rc) : Bool := decide (a.ttl = b.ttl) && sameR a b
set_option maxRecDepth 100000 in
set_option maxHeartbeats 4000000 in
theorem rec_twin (cs cs' : List Value) (a b : Rc) (w : World) (hA : RcAt w cs a) (hU : RcAt w cs' b) (hk : RcOK a) (hk2 : RcOK b) :
    Calls Try.prog 41 #[.agg cs.toArray, .agg cs'.toArray] w fun e w' => e = .returned (.bool (twinR a b)) ∧ Below w.heap.size w w' := by
  have HS := Lib.hid (fun W (hb : Below w.heap.size w W) => rec_Same cs cs' a b W (hA.below hb) (hU.below hb) hk hk2)
  obtain ⟨vo, vn, vu, vt, vr, rfl, -⟩ := hA
  obtain ⟨uo, un, uu, ut, ur, rfl, -⟩ := hU
  have hR := Lib.hid (show twinR a b = (decide (a.ttl = b.ttl) && sameR a b) from rfl)
  generalize twinR a b = res at *
  generalize sameR a b = q at *
  generalize a.data.ty = x at *
  generalize b.data.ty = y at *
  obtain ⟨ta, hta⟩ : ∃ t, a.ttl = t := ⟨_, rfl⟩
  obtain ⟨tb, htb⟩ : ∃ t, b.ttl = t := ⟨_, rfl⟩
  rw [hta] at hR HS ⊢
  rw [htb] at hR HS ⊢
  obtain ⟨O1, hO1⟩ : ∃ O, O = Obj.cells #[vo, .int .u32 (ta : Int), .int .i64 x, vn, vu, vt, vr] 50 := ⟨_, rfl⟩
  obtain ⟨O2, hO2⟩ : ∃ O, O = Obj.cells #[uo, .int .u32 (tb : Int), .int .i64 y, un, uu, ut, ur] 50 := ⟨_, rfl⟩
  have hbb := ((Below.refl w.heap.size w).alloc (Nat.le_refl _) O1).alloc (o := O2) (by simp)
  have HBB := Lib.hid hbb
  have hn := HS.out _ hbb
  have k1 : ((w.alloc O1).alloc O2).heap[w.heap.size]? = some O1 := (Below.heap_alloc (w.alloc O1) O2 w.heap.size (by simp)).trans (knew w O1)
  have k2 : ((w.alloc O1).alloc O2).heap[w.heap.size + 1]? = some O2 := by have := knew (w.alloc O1) O2; simpa using this
  rw [hO1] at k1 k2 hn HBB
  rw [hO2] at k1 k2 hn HBB
  clear hbb hk hk2 hO1 hO2 hta htb HS
  by_cases ht : ta = tb
  · subst ht
    have HR : Hid (res = q) := Lib.hid (by rw [hR.out]; simp)
    clear hR k1 k2
    go_enter Try.func41, Try.ntmps41
    go_wp2_with fail
    refine hn.mono ?_
    rintro e w1 ⟨rfl, hb1⟩
    go_wp2
    go_ret
    exact ⟨by rw [HR.out]; rfl, HBB.out.trans (hb1.mono HBB.out.size)⟩
  · have HR : Hid (res = false) := Lib.hid (by rw [hR.out]; simp [ht])
    have hz : ¬ (ta : Int) = (tb : Int) := by omega
    have hz2 : ((ta : Int) == (tb : Int)) = false := by simpa using hz
    clear hR k1 k2 hn
    go_enter Try.func41, Try.ntmps41
    go_wp2
    go_ret
    exact ⟨by rw [HR.out]; rfl, HBB.out⟩
end Go.Proofs.Yteppgeiejknhoaa

/-
  The document's CheckRec, CompareRec, SameRec. (Written by wip/tools/genref5.py.)
-/
namespace Go.Proofs.Yteppgeiejknhoaa
set_option maxRecDepth 20000
open Go.RowKit Go.Shelf
set_option maxRecDepth 20000
set_option linter.unusedVariables false
set_option linter.unusedSimpArgs false

set_option maxRecDepth 100000 in
set_option maxHeartbeats 4000000 in
theorem ref_CheckRec (cs : List Value) (r : Rc) (w : World) (hA : RcAt w cs r) (hk : RcOK r) :
    Calls Try.prog 44 #[.agg cs.toArray] w fun e w' => e = .returned (.int .i64 (checkR r)) ∧ Below w.heap.size w w' := by
  obtain ⟨vo, vn, vu, vt, vr, rfl, a1, a2⟩ := hA
  have HN := Lib.hid (fun W (hb : Below w.heap.size w W) => kn_RCheck vo r.owner _ rfl W (a1.below hb) hk.1)
  have HD := Lib.hid (fun W (hb : Below w.heap.size w W) => ref_CheckData _ r.data W (a2.below hb) hk.2.2)
  unfold CheckPost at HD
  have hR := Lib.hid (show checkR r = if checkN r.owner ≠ 0 then checkN r.owner else if 2147483647 < r.ttl then 7 else checkD r.data from rfl)
  generalize checkR r = res at *
  generalize checkN r.owner = q at *
  generalize checkD r.data = q2 at *
  generalize r.data.ty = x at *
  obtain ⟨t, ht⟩ : ∃ t, r.ttl = t := ⟨_, rfl⟩
  rw [ht] at hR ⊢
  have hb0 : Below w.heap.size w (w.alloc (.cells #[vo, .int .u32 (t : Int), .int .i64 x, vn, vu, vt, vr] 79)) := (Below.refl w.heap.size w).alloc (Nat.le_refl _) _
  have K1 := Lib.hid (knew w (.cells #[vo, .int .u32 (t : Int), .int .i64 x, vn, vu, vt, vr] 79))
  have HBB := Lib.hid hb0
  have hn := HN.out _ hb0
  clear a1 a2 hb0 hk ht HN
  by_cases hq : q = 0
  · subst hq
    by_cases hov : 2147483647 < t
    · have HR : Hid (res = 7) := Lib.hid (by rw [hR.out, if_neg (by simp), if_pos hov])
      have hovz : (2147483647 : Int) < (t : Int) := by omega
      clear hR
      go_enter Try.func44, Try.ntmps44
      go_wp2_with fail
      refine hn.mono ?_
      rintro e w1 ⟨rfl, hb1⟩
      have c1 := (hb1.block _ (kblock_lt K1.out)).trans K1.out
      have p1 := kcell c1 1 (.int .u32 (t : Int)) rfl
      have HB1 := Lib.hid (HBB.out.trans (hb1.mono HBB.out.size))
      clear hn hb1 c1
      go_wp2
      go_ret
      exact ⟨by rw [HR.out]; rfl, HB1.out⟩
    · have HR : Hid (res = q2) := Lib.hid (by rw [hR.out, if_neg (by simp), if_neg hov])
      have hovz : ¬ (2147483647 : Int) < (t : Int) := by omega
      clear hR
      go_enter Try.func44, Try.ntmps44
      go_wp2_with fail
      refine hn.mono ?_
      rintro e w1 ⟨rfl, hb1⟩
      have c1 := (hb1.block _ (kblock_lt K1.out)).trans K1.out
      have p1 := kcell c1 1 (.int .u32 (t : Int)) rfl; have p2 := kcell c1 2 _ rfl; have p3 := kcell c1 3 _ rfl; have p4 := kcell c1 4 _ rfl; have p5 := kcell c1 5 _ rfl; have p6 := kcell c1 6 _ rfl
      have HB1 := Lib.hid (HBB.out.trans (hb1.mono HBB.out.size))
      have hd := HD.out w1 HB1.out
      clear hn hb1 c1
      go_wp2_with fail
      refine hd.mono ?_
      rintro e w2 ⟨rfl, hb2⟩
      go_wp2
      go_ret
      exact ⟨by rw [HR.out]; rfl, HB1.out.trans (hb2.mono HB1.out.size)⟩
  · have HR : Hid (res = q) := Lib.hid (by rw [hR.out, if_pos hq])
    have hqz : (q == 0) = false := by simpa using hq
    have hqn : (q != 0) = true := by simpa using hq
    clear hR
    go_enter Try.func44, Try.ntmps44
    go_wp2_with fail
    refine hn.mono ?_
    rintro e w1 ⟨rfl, hb1⟩
    have HB1 := Lib.hid (HBB.out.trans (hb1.mono HBB.out.size))
    clear hn hb1
    go_wp2
    go_ret
    exact ⟨by rw [HR.out]; rfl, HB1.out⟩

end Go.Proofs.Yteppgeiejknhoaa

/-
  The opening of arguments of types rdata.Data, rec.Rec, []rec.Rec.
-/
namespace Go.Proofs.Yteppgeiejknhoaa
set_option maxRecDepth 20000
open Go Go.ChangeShapes Go.WideShapes Go.ChangeAt Go.RowKit Go.Shelf
set_option maxRecDepth 20000
theorem sl_row {W : World} {x : Addr} {l c : Nat} (f : Nat → Value) (hl : l ≤ c) (hcell : ∀ i, i < c → W.cell? (x.add i) = some (f i)) : SlAt W (.slice (some x) l c) ((List.range l).map f) := by
  refine ⟨some x, c, by simp, by simpa using hl, by simp, ?_⟩
  by_cases h0 : l = 0
  · subst h0; left; simp
  · right
    obtain ⟨b, off, spot⟩ := x
    have hspot : spot = none := by simpa [Addr.add] using World.cell?_spot (hcell 0 (by omega))
    subst hspot
    have hb : b < W.heap.size := by
      have h := hcell 0 (by omega)
      exact World.block_lt_of_cell? W _ (by simpa [Addr.add] using h : W.cell? ⟨b, off, none⟩ = some (f 0))
    refine ⟨b, off, rfl, hb, fun j hj => ?_⟩
    rw [List.length_map, List.length_range] at hj
    rw [← Go.WideShapes.add_plain, hcell j (by omega)]
    simp
theorem ints_row {W : World} {k : IntKind} {x : Addr} {l c : Nat} {zs : List Int} (hl : l ≤ c) (hz : zs.length = c) (hcell : ∀ i, i < zs.length → W.cell? (x.add i) = some (.int k (zs.getD i 0))) : SlAt W (.slice (some x) l c) ((zs.take l).map fun z => .int k z) := by
  have h := sl_row (fun i => Value.int k (zs.getD i 0)) hl (fun i hi => hcell i (by omega))
  have e : (List.range l).map (fun i => Value.int k (zs.getD i 0)) = (zs.take l).map fun z => Value.int k z := by
    apply List.ext_getElem
    · simp; omega
    · intro i h1 h2
      simp only [List.length_map, List.length_range] at h1
      have : i < zs.length := by omega
      simp [List.getD, this]
  rwa [e] at h
variable {H : Type} {enc : TypeId × Value → H} {W : World}
theorem cells3 : Try.prog.cellsOf 3 = 1 ∧ Try.prog.cellsOf 44 = 1 ∧ Try.prog.cellsOf 45 = 1 ∧ Try.prog.cellsOf 22 = 1 ∧ Try.prog.cellsOf 46 = 1 ∧ Try.prog.cellsOf 48 = 5 ∧ Try.prog.cellsOf 23 = 1 ∧ Try.prog.cellsOf 9 = 1 ∧ Try.prog.cellsOf 43 = 1 ∧ Try.prog.cellsOf 5 = 1 :=
  ⟨by kernel_rfl, by kernel_rfl, by kernel_rfl, by kernel_rfl, by kernel_rfl, by kernel_rfl, by kernel_rfl, by kernel_rfl, by kernel_rfl, by kernel_rfl⟩
theorem open_nm {t : TypeId} (ht : Try.prog.underlying t = some (.slice 9)) {fuel : Nat} {v : Value} {x : DataW H × List MemPlace} (hf : DataW.trod enc Try.prog W 0 (fun _ => true) true fuel t [v] = some x) : ∃ zs, NmArg W v zs := by
  rcases Go.ChangeShapes.open_strings ht Try.underlying9 (by kernel_rfl) hf with ⟨hcs, _⟩ | ⟨x, l, c, zs, hcs, _, hl, hm, hz, _, hcell, hwz⟩
  · simp at hcs
    subst hcs
    exact ⟨[], nmArg_nil W⟩
  · simp at hcs
    subst hcs
    exact ⟨_, nmArg_row hl hm (by simpa using hz) hcell hwz⟩
theorem open_nms {fuel : Nat} {v : Value} {x : DataW H × List MemPlace} (hf : DataW.trod enc Try.prog W 0 (fun _ => true) true fuel 44 [v] = some x) : ∃ ns : List Nm, NmsAt W v ns ∧ ∀ n ∈ ns, n.length ≤ maxLen ∧ ∀ y ∈ n, y.length ≤ maxLen := by
  rcases Go.Deep.open_slice1 Try.underlying44 (by kernel_rfl) hf with ⟨hcs, _⟩ | ⟨a, len, cap, m, n, V, D, Pl, hcs, _, hl, hm, hmm, _, hV⟩
  · simp at hcs
    subst hcs
    exact ⟨[], NmsAt.nil W, by simp⟩
  · simp at hcs
    subst hcs
    simp only [if_true] at hmm
    subst hmm
    obtain ⟨F, hF⟩ := Go.Deep.choose_lt (α := Nm) (p := fun i z => NmArg W (V i) z) (fun i hi => open_nm Try.underlying23 (hV i hi).2)
    refine ⟨(List.range len).map F, ⟨(List.range len).map V, sl_row V hl (fun i hi => (hV i hi).1), by simp, fun j hj => ?_⟩, ?_⟩
    · simp only [List.length_map, List.length_range] at hj
      simpa using (hF j (by omega)).1
    · intro n hn
      obtain ⟨i, hi, rfl⟩ := List.mem_map.1 hn
      exact (hF i (by have := List.mem_range.1 hi; omega)).2
theorem wf_u32 {n : Int} (h : (Lit.int .u32 n).wf = true) : 0 ≤ n ∧ n < 2 ^ 32 := by
  simp [Lit.wf] at h
  have e1 : IntKind.u32.min = 0 := by decide
  have e2 : IntKind.u32.max = 4294967295 := by decide
  omega
theorem wf_u8 {n : Int} (h : (Lit.int .u8 n).wf = true) : 0 ≤ n ∧ n < 256 := by
  simp [Lit.wf] at h
  have e1 : IntKind.u8.min = 0 := by decide
  have e2 : IntKind.u8.max = 255 := by decide
  omega
theorem wf_i64 {n : Int} (h : (Lit.int .i64 n).wf = true) : -(2 ^ 63) ≤ n ∧ n < 2 ^ 63 := by
  simp [Lit.wf] at h
  have e1 : IntKind.i64.min = -9223372036854775808 := by decide
  have e2 : IntKind.i64.max = 9223372036854775807 := by decide
  omega
theorem open_u32s {fuel : Nat} {v : Value} {x : DataW H × List MemPlace} (hf : DataW.trod enc Try.prog W 0 (fun _ => true) true fuel 45 [v] = some x) : ∃ ns : List Nat, SlAt W v (ns.map u32V) ∧ ∀ n ∈ ns, n < 2 ^ 32 := by
  rcases open_ints Try.underlying45 Try.underlying43 (by kernel_rfl) hf with ⟨hcs, _⟩ | ⟨a, l, c, zs, hcs, _, hl, hm, hz, _, hcell, hw⟩
  · simp at hcs
    subst hcs
    exact ⟨[], SlAt.nil W, by simp⟩
  · simp at hcs
    subst hcs
    refine ⟨(zs.take l).map Int.toNat, ?_, ?_⟩
    · have h := ints_row hl (by simpa using hz) hcell
      have e : ((zs.take l).map Int.toNat).map u32V = (zs.take l).map fun z => Value.int .u32 z := by
        rw [List.map_map]
        apply List.map_congr_left
        intro z hz
        have := wf_u32 (hw z (List.mem_of_mem_take hz))
        show Value.int .u32 ((z.toNat : Nat) : Int) = _
        rw [Int.toNat_of_nonneg this.1]
      rw [e]; exact h
    · intro n hn
      obtain ⟨z, hz, rfl⟩ := List.mem_map.1 hn
      have := wf_u32 (hw z (List.mem_of_mem_take hz))
      omega
theorem open_u8s {fuel : Nat} {v : Value} {x : DataW H × List MemPlace} (hf : DataW.trod enc Try.prog W 0 (fun _ => true) true fuel 46 [v] = some x) : ∃ ns : List UInt8, SlAt W v (ns.map bv) := by
  rcases open_ints Try.underlying46 Try.underlying5 (by kernel_rfl) hf with ⟨hcs, _⟩ | ⟨a, l, c, zs, hcs, _, hl, hm, hz, _, hcell, hw⟩
  · simp at hcs
    subst hcs
    exact ⟨[], SlAt.nil W⟩
  · simp at hcs
    subst hcs
    refine ⟨(zs.take l).map fun z => UInt8.ofNat z.toNat, ?_⟩
    have h := ints_row hl (by simpa using hz) hcell
    have e : ((zs.take l).map fun z => UInt8.ofNat z.toNat).map bv = (zs.take l).map fun z => Value.int .u8 z := by
      rw [List.map_map]
      apply List.map_congr_left
      intro z hz
      have := wf_u8 (hw z (List.mem_of_mem_take hz))
      show Value.int .u8 ((UInt8.ofNat z.toNat).toNat : Int) = _
      congr 1
      simp
      omega
    rw [e]; exact h
theorem open_data {fuel : Nat} {cs : List Value} {x : DataW H × List MemPlace} (hf : DataW.trod enc Try.prog W 0 (fun _ => true) true fuel 48 cs = some x) : ∃ d, DatArg W (.agg cs.toArray) d := by
  obtain ⟨k1, k2, k3, k4, k5, k6, _⟩ := cells3
  obtain ⟨xs, n, _, _, hl, hx, hfd⟩ := DataW.trod_struct Try.underlying48 hf
  rw [k6] at hl
  match cs, hl with
  | [c0, c1, c2, c3, c4], _ =>
  match xs, hx with
  | [y0, y1, y2, y3, y4], _ =>
  have h0 : DataW.trod enc Try.prog W 0 (fun _ => true) true n 3 (List.take (Try.prog.cellsOf 3) (List.drop 0 [c0, c1, c2, c3, c4])) = some y0 := hfd 0 _ rfl
  rw [k1] at h0
  replace h0 : DataW.trod enc Try.prog W 0 (fun _ => true) true n 3 [c0] = some y0 := h0
  have h1 : DataW.trod enc Try.prog W 0 (fun _ => true) true n 44 (List.take (Try.prog.cellsOf 44) (List.drop 1 [c0, c1, c2, c3, c4])) = some y1 := hfd 1 _ rfl
  rw [k2] at h1
  replace h1 : DataW.trod enc Try.prog W 0 (fun _ => true) true n 44 [c1] = some y1 := h1
  have h2 : DataW.trod enc Try.prog W 0 (fun _ => true) true n 45 (List.take (Try.prog.cellsOf 45) (List.drop 2 [c0, c1, c2, c3, c4])) = some y2 := hfd 2 _ rfl
  rw [k3] at h2
  replace h2 : DataW.trod enc Try.prog W 0 (fun _ => true) true n 45 [c2] = some y2 := h2
  have h3 : DataW.trod enc Try.prog W 0 (fun _ => true) true n 22 (List.take (Try.prog.cellsOf 22) (List.drop 3 [c0, c1, c2, c3, c4])) = some y3 := hfd 3 _ rfl
  rw [k4] at h3
  replace h3 : DataW.trod enc Try.prog W 0 (fun _ => true) true n 22 [c3] = some y3 := h3
  have h4 : DataW.trod enc Try.prog W 0 (fun _ => true) true n 46 (List.take (Try.prog.cellsOf 46) (List.drop 4 [c0, c1, c2, c3, c4])) = some y4 := hfd 4 _ rfl
  rw [k5] at h4
  replace h4 : DataW.trod enc Try.prog W 0 (fun _ => true) true n 46 [c4] = some y4 := h4
  obtain ⟨ty, e0, _, w0⟩ := DataW.trod_int Try.underlying3 h0
  obtain ⟨ns, n1, n2⟩ := open_nms h1
  obtain ⟨us, u1, u2⟩ := open_u32s h2
  obtain ⟨ts, t1⟩ := open_nm Try.underlying22 h3
  obtain ⟨rs, r1⟩ := open_u8s h4
  simp at e0
  subst e0
  exact ⟨⟨ty, ns, us, ts, rs⟩, ⟨c1, c2, c3, c4, rfl, n1, u1, t1.1, r1⟩, wf_i64 w0, n2, u2, t1.2.2⟩
/-- A law's row from its walk, over laid variables, the world's shape handed on. -/
theorem returnsInHanded_and_shaped {a : Assume} {C : Checked} {os : Os} {f : FuncId} {fn : Func} {s : ChangeSpec} {conds : List PathCond} {apart fresh handsOn again : Bool} {X : World → Array Value → Prop}
    (hX : ∀ (w w' : World) (args : Array Value), w.heap = w'.heap → X w args → X w' args)
    (own : ownKnob C.prog.godebug = none) (started : os.Started) (noInit : C.prog.inits.idxOf? f = none) (hfn : C.prog.funcs[f]? = some fn)
    (witness : ∃ (w : World) (tape : Tape) (i : Input), w.os = os ∧ (w.forCall tape i).Shaped C.prog ∧ i.vars = [] ∧ Input.okWide C.prog (w.forCall tape i) .any w.heap.size f i ∧
      ((s.pre enc C.prog fn conds apart (w.forCall tape i).memory i.args ∧ X (w.forCall tape i).memory i.args) ∧ sizedMet enc C.prog fn (OpenSpec.ofChange s) apart (w.forCall tape i).memory i.args) ∧ a.holds C.prog (lone (Frame.enter C.prog f i.args .normal) [] (w.forCall tape i)))
    (contract : ∀ (W : World) (base : Nat) (args : Array Value) (ds gs : List (DataW H)) (before : List MemPlace),
      (∀ (j : Nat) t v, fn.params[j]? = some t → args[j]? = some v → Value.okWide C.prog W .any base t v) →
      DataW.Whole enc C.prog fn.params.toList s.vars apart W args.toList ds gs before →
      conds.all (PathCond.test C.prog ⟨fn.params.toList, ds, s.plain.varTypes C.prog, gs⟩) = true →
      (DataW.weightsEach C.prog (fn.params.toList ++ s.plain.varTypes C.prog) (ds ++ gs)).all (· ≤ reachBytes) = true → X W args →
      W.ShapedOpen C.prog →
      a.holds C.prog (lone (Frame.enter C.prog f args .normal) [] W) →
      Calls C.prog f args W fun e W' => ∃ v, e = .returned v ∧ s.post enc C.prog fn apart fresh handsOn again W args v W') :
    ReturnsInHanded a C os f .any (fun w args => (s.pre enc C.prog fn conds apart w args ∧ X w args) ∧ sizedMet enc C.prog fn (OpenSpec.ofChange s) apart w args) (s.post enc C.prog fn apart fresh handsOn again) := by
  refine returnsInHanded_of_calls own started noInit witness ?_
  intro w tape i _ hsh _ hok hpre hholds
  obtain ⟨_, _, _, fn', hfn', _, _, _, _, hval⟩ := hok
  obtain rfl : fn' = fn := Option.some.inj (hfn'.symm.trans hfn)
  obtain ⟨⟨⟨ds, gs, before, hw, hc⟩, hx⟩, hz⟩ := hpre
  have hw' := DataW.Whole.of_heap (w' := w.forCall tape i) (by rfl) hw
  refine (contract (w.forCall tape i) w.heap.size i.args ds gs before hval hw' hc (hz.weights hw) (hX _ _ _ (by rfl) hx) hsh hholds).mono fun e W' ⟨v, he, hp⟩ => ?_
  subst he
  exact ChangeSpec.post_blind hp
theorem cellsRec : Try.prog.cellsOf 50 = 7 := by kernel_rfl
theorem open_rec {fuel : Nat} {cs : List Value} {x : DataW H × List MemPlace} (hf : DataW.trod enc Try.prog W 0 (fun _ => true) true fuel 50 cs = some x) : ∃ r, RcArg W cs r := by
  obtain ⟨k1, k2, k3, k4, k5, k6, k7, k8, k9, _⟩ := cells3
  obtain ⟨xs, n, _, _, hl, hx, hfd⟩ := DataW.trod_struct Try.underlying50 hf
  rw [cellsRec] at hl
  match cs, hl with
  | [c0, c1, c2, c3, c4, c5, c6], _ =>
  match xs, hx with
  | [y0, y1, y2], _ =>
  have h0 : DataW.trod enc Try.prog W 0 (fun _ => true) true n 23 (List.take (Try.prog.cellsOf 23) (List.drop 0 [c0, c1, c2, c3, c4, c5, c6])) = some y0 := hfd 0 _ rfl
  rw [k7] at h0
  replace h0 : DataW.trod enc Try.prog W 0 (fun _ => true) true n 23 [c0] = some y0 := h0
  have h1 : DataW.trod enc Try.prog W 0 (fun _ => true) true n 43 (List.take (Try.prog.cellsOf 43) (List.drop 1 [c0, c1, c2, c3, c4, c5, c6])) = some y1 := hfd 1 _ rfl
  rw [k9] at h1
  replace h1 : DataW.trod enc Try.prog W 0 (fun _ => true) true n 43 [c1] = some y1 := h1
  have h2 : DataW.trod enc Try.prog W 0 (fun _ => true) true n 48 (List.take (Try.prog.cellsOf 48) (List.drop 2 [c0, c1, c2, c3, c4, c5, c6])) = some y2 := hfd 2 _ rfl
  rw [k6] at h2
  replace h2 : DataW.trod enc Try.prog W 0 (fun _ => true) true n 48 [c2, c3, c4, c5, c6] = some y2 := h2
  obtain ⟨o, o1⟩ := open_nm Try.underlying23 h0
  obtain ⟨t, e1, _, w1⟩ := DataW.trod_int Try.underlying43 h1
  obtain ⟨d, hd⟩ := open_data h2
  simp at e1
  subst e1
  have ht := wf_u32 w1
  obtain ⟨vn, vu, vt, vr, e, hh⟩ := hd.1
  have e' : [c2, c3, c4, c5, c6] = [Value.int .i64 d.ty, vn, vu, vt, vr] := by
    have : [c2, c3, c4, c5, c6].toArray = #[Value.int .i64 d.ty, vn, vu, vt, vr] := by injection e
    exact congrArg Array.toList this
  simp only [List.cons.injEq, and_true] at e'
  obtain ⟨rfl, rfl, rfl, rfl, rfl⟩ := e'
  refine ⟨⟨o, t.toNat, d⟩, _, _, _, _, _, ?_, o1, hd, by show t.toNat < 2 ^ 32; omega⟩
  show [_, Value.int .u32 t, _, _, _, _, _] = [_, Value.int .u32 ((t.toNat : Nat) : Int), _, _, _, _, _]
  rw [Int.toNat_of_nonneg ht.1]
theorem flatten_at (k : Nat) (k0 : 0 < k) : ∀ (l : List (List Value)), (∀ cs ∈ l, cs.length = k) → ∀ (t : Nat) (u : Value), l.flatten[t]? = some u → ∃ h : t / k < l.length, (l[t / k])[t % k]? = some u
  | [], _, t, u, h => by simp at h
  | x :: r, hk, t, u, h => by
    have hx := hk x (by simp)
    rw [List.flatten_cons] at h
    by_cases ht : t < k
    · rw [List.getElem?_append_left (by omega)] at h
      have e0 : t / k = 0 := Nat.div_eq_of_lt ht
      have e1 : t % k = t := Nat.mod_eq_of_lt ht
      refine ⟨by rw [e0]; simp, ?_⟩
      simp only [e0, e1, List.getElem_cons_zero]
      exact h
    · rw [List.getElem?_append_right (by omega), hx] at h
      obtain ⟨h1, h2⟩ := flatten_at k k0 r (fun cs hc => hk cs (by simp [hc])) (t - k) u h
      have e0 : t / k = (t - k) / k + 1 := by
        rw [Nat.div_eq_sub_div k0 (by omega)]
      have e1 : t % k = (t - k) % k := by
        rw [Nat.mod_eq_sub_mod (by omega)]
      refine ⟨by rw [e0]; simpa using h1, ?_⟩
      simp only [e0, e1, List.getElem_cons_succ]
      exact h2
instance inhRec : Inhabited (List Value × Rc) := ⟨([], Rc.none)⟩
theorem open_recs {fuel : Nat} {v : Value} {x : DataW H × List MemPlace} (hf : DataW.trod enc Try.prog W 0 (fun _ => true) true fuel 24 [v] = some x) :
    ∃ (css : List (List Value)) (l : List Rc), SlK W v css ∧ css.length = l.length ∧ ∀ i (h1 : i < css.length) (h2 : i < l.length), RcArg W css[i] l[i] := by
  rcases Go.Deep.open_slice Try.underlying24 hf with ⟨hcs, _⟩ | ⟨a, len, cap, m, n, D, Pl, hcs, _, hl, hm, hmm, _, hV⟩
  · simp at hcs
    subst hcs
    exact ⟨[], [], SlK.nil W, rfl, fun i h1 => absurd h1 (Nat.not_lt_zero _)⟩
  · simp at hcs
    subst hcs
    simp only [if_true] at hmm
    subst hmm
    rw [cellsRec] at hV
    obtain ⟨F, hF⟩ := Go.Deep.choose_lt (α := List Value × Rc) (p := fun i z => W.cells? 0 (a.add (i * 7)) 7 = some z.1 ∧ RcArg W z.1 z.2) (fun i hi => by
      obtain ⟨cs', h1, h2⟩ := hV i hi
      obtain ⟨r, hr⟩ := open_rec h2
      exact ⟨(cs', r), h1, hr⟩)
    have hlen : ∀ i, i < len → (F i).1.length = 7 := fun i hi => (World.cells?_some (hF i (by omega)).1).2.1
    refine ⟨(List.range len).map fun i => (F i).1, (List.range len).map fun i => (F i).2, ⟨some a, m, by simp, by simpa using hl, (fun e => by cases e), ?_⟩, by simp, fun i h1 h2 => ?_⟩
    · by_cases h0 : len = 0
      · subst h0; left; rfl
      · right
        obtain ⟨b, off, spot⟩ := a
        have hc0 := (World.cells?_some (hF 0 (by omega)).1).2.2 0 (by omega)
        rw [List.getElem?_eq_getElem (by rw [hlen 0 (by omega)]; omega)] at hc0
        have hspot : spot = none := by simpa [Addr.add] using World.cell?_spot hc0
        subst hspot
        have hb : b < W.heap.size := World.block_lt_of_cell? W _ (by simpa [Addr.add] using hc0 : W.cell? ⟨b, off, none⟩ = some _)
        refine ⟨b, off, rfl, hb, fun j u hj => ?_⟩
        obtain ⟨h1, h2⟩ := flatten_at 7 (by omega) _ (fun cs hc => by
          obtain ⟨i, hi, rfl⟩ := List.mem_map.1 hc
          exact hlen i (List.mem_range.1 hi)) j u hj
        have hi : j / 7 < len := by simpa using h1
        rw [List.getElem_map, List.getElem_range] at h2
        have hd : j % 7 < 7 := Nat.mod_lt _ (by omega)
        have hc := (World.cells?_some (hF (j / 7) (by omega)).1).2.2 (j % 7) hd
        rw [h2] at hc
        rw [Addr.add_lit, Addr.add_lit, show off + j / 7 * 7 + j % 7 = off + j by omega] at hc
        exact hc
    · simp only [List.length_map, List.length_range] at h1
      simpa using (hF i (by omega)).2
end Go.Proofs.Yteppgeiejknhoaa

