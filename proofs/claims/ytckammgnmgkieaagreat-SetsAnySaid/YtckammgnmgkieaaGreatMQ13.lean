/-
  law4.Of: the data as the document's. (Written by wip/tools/gen12.py.)
-/
import Derived.Test.YtckammgnmgkieaaGreatMQ02
import Derived.Test.YtckammgnmgkieaaGreatMQ22
import Derived.Deep.RegionLaw
namespace Go.Proofs.YtckammgnmgkieaaGreat
set_option maxRecDepth 20000
open Go.RowKit Go.Shelf
set_option maxRecDepth 20000
theorem sl_list : ∀ vs : List Value, (∀ x ∈ vs, ∃ s : SlV, x = slEnc s) → ∃ ss : List SlV, ss.map slEnc = vs
  | [], _ => ⟨[], rfl⟩
  | x :: r, h => by
    obtain ⟨s, hs⟩ := h x (by simp)
    obtain ⟨ss, hss⟩ := sl_list r (fun y hy => h y (by simp [hy]))
    exact ⟨s :: ss, by simp [hs, hss]⟩
theorem NmAt.sl {W : World} {v : Value} {xs : Nm} (h : NmAt W v xs) : ∃ s : SlV, v = slEnc s := by
  obtain ⟨⟨a, c, rfl, _⟩, _⟩ := h
  exact ⟨(a, xs.length, c), rfl⟩
theorem set5_block' {W : World} {R : Nat} {y0 y1 y2 y3 y4 : Value} (h : W.heap[R]? = some (.cells #[y0, y1, y2, y3, y4] 107)) (x0 x1 x2 x3 x4 : Value) : (set5 W R x0 x1 x2 x3 x4).heap[R]? = some (.cells #[x0, x1, x2, x3, x4] 107) :=
  block_set (block_set (block_set (block_set (block_set h 0 x0) 1 x1) 2 x2) 3 x3) 4 x4
theorem ownG_set5 {α : Type} {T : TypeId} {enc : α → Value} {W : World} {base : Nat} {v : Value} {xs : List α} {R : Nat} {y0 y1 y2 y3 y4 : Value} (h : W.heap[R]? = some (.cells #[y0, y1, y2, y3, y4] 107)) (x0 x1 x2 x3 x4 : Value) (hT : 107 ≠ T) (ho : OwnG T enc W base v xs) : OwnG T enc (set5 W R x0 x1 x2 x3 x4) base v xs :=
  ((((ho.keptB h hT 0 x0).keptB (block_set h 0 x0) hT 1 x1).keptB (block_set (block_set h 0 x0) 1 x1) hT 2 x2).keptB (block_set (block_set (block_set h 0 x0) 1 x1) 2 x2) hT 3 x3).keptB (block_set (block_set (block_set (block_set h 0 x0) 1 x1) 2 x2) 3 x3) hT 4 x4
theorem cells5' {W : World} {R : Nat} {T : TypeId} {x0 x1 x2 x3 x4 : Value} (h : W.heap[R]? = some (.cells #[x0, x1, x2, x3, x4] T)) :
    W.cell? ⟨R, 0, none⟩ = some x0 ∧ W.cell? ⟨R, 1, none⟩ = some x1 ∧ W.cell? ⟨R, 2, none⟩ = some x2 ∧ W.cell? ⟨R, 3, none⟩ = some x3 ∧ W.cell? ⟨R, 4, none⟩ = some x4 :=
  ⟨cell_of_block h 0 _ rfl, cell_of_block h 1 _ rfl, cell_of_block h 2 _ rfl, cell_of_block h 3 _ rfl, cell_of_block h 4 _ rfl⟩
theorem frozen5' {W : World} {R : Nat} {T : TypeId} {cs : Array Value} (h : W.heap[R]? = some (.cells cs T)) :
    W.frozen? ⟨R, 0, none⟩ = false ∧ W.frozen? ⟨R, 1, none⟩ = false ∧ W.frozen? ⟨R, 2, none⟩ = false ∧ W.frozen? ⟨R, 3, none⟩ = false ∧ W.frozen? ⟨R, 4, none⟩ = false :=
  ⟨frozen_block h 0, frozen_block h 1, frozen_block h 2, frozen_block h 3, frozen_block h 4⟩
theorem elemStrs : ElemT 23 44 24 := ⟨Tryz.underlying44, _, _, rfl, rfl, rfl, rfl, rfl⟩

end Go.Proofs.YtckammgnmgkieaaGreat

/-
  law4.Of: what its answer is made of. (Written by wip/tools/genofs.py from XDatN2.)
-/
namespace Go.Proofs.YtckammgnmgkieaaGreat
set_option maxRecDepth 20000
open Go.RowKit Go.Shelf
set_option maxRecDepth 20000
set_option linter.unusedVariables false
set_option linter.unusedSimpArgs false

def OfPostS (w0 : World) (v : Value) (d : Dat) (w : World) (e : Ending) (w' : World) : Prop :=
  ∃ vn vn' vu vt vr, ∃ ss : List SlV, v = .agg #[.int .i64 d.ty, vn, vu, vt, vr] ∧ e = .returned (.agg #[.int .i64 d.ty, vn', vu, vt, vr]) ∧ OwnG 23 slEnc w' w.heap.size vn' ss ∧ ss.length = d.names.length ∧
    (∀ j (h1 : j < ss.length) (h2 : j < d.names.length), NmAt w0 (slEnc ss[j]) d.names[j]) ∧ SlAt w0 vu (d.nums.map u32V) ∧ NmAt w0 vt d.texts ∧ SlAt w0 vr (d.raw.map bv) ∧ Below w.heap.size w w'
set_option maxRecDepth 100000 in
set_option maxHeartbeats 8000000 in
theorem law4_OfS (w0 : World) (v : Value) (d : Dat) (w : World) (hA : DatAt w0 v d) (hwz : Below w0.heap.size w0 w) (hk : d.names.length ≤ 1048576) :
    Calls Tryz.prog 78 #[v] w (OfPostS w0 v d w) := by
  obtain ⟨vn, vu, vt, vr, rfl, ⟨vs, s1, sl, s2⟩, a2, a3, a4⟩ := hA
  obtain ⟨an, ca, rfl, _⟩ := id s1
  obtain ⟨bn, cb, rfl, _⟩ := id a2
  obtain ⟨tn, ct, rfl, _⟩ := id a3.1
  obtain ⟨rn, cr, rfl, _⟩ := id a4
  obtain ⟨ss, hss⟩ := sl_list vs (fun x hx => by obtain ⟨j, hj, rfl⟩ := List.mem_iff_getElem.1 hx; exact (s2 j hj).sl)
  subst hss
  have HA2 := Lib.hid a2; have HA3 := Lib.hid a3; have HA4 := Lib.hid a4
  have hNA : ∀ j (_ : j < (ss.map slEnc).length) (h2 : j < d.names.length), NmAt w0 (ss.map slEnc)[j] d.names[j] := fun j h1 _ => s2 j h1
  have HNA := Lib.hid hNA
  have HCA := Lib.hid (fun W (hb : Below w.heap.size w W) j (hj : j < (ss.map slEnc).length) => (s1.below hwz).cell hb j hj)
  clear s1 s2 a2 a3 a4 hNA hwz
  rw [List.length_map] at sl
  rw [List.length_map, List.length_map, List.length_map]
  obtain ⟨n1, e1⟩ : ∃ n, ss.length = n := ⟨_, rfl⟩
  obtain ⟨n2, e2⟩ : ∃ n, d.nums.length = n := ⟨_, rfl⟩
  obtain ⟨n3, e3⟩ : ∃ n, d.texts.length = n := ⟨_, rfl⟩
  obtain ⟨n4, e4⟩ : ∃ n, d.raw.length = n := ⟨_, rfl⟩
  rw [List.length_map, e2] at HA2
  rw [e3] at HA3
  rw [List.length_map, e4] at HA4
  rw [e1, e2, e3, e4]
  have hn1 : n1 ≤ 1048576 := by omega
  have E1 := Lib.hid e1; have SL := Lib.hid sl
  clear e1 e2 e3 e4 sl hk
  go_enter Tryz.func78, Tryz.ntmps78
  go_upto_block 0 with fail
  have hW : ∀ W0, (((w.alloc (.cells #[.int .i64 d.ty, .slice an n1 ca, .slice bn n2 cb, .slice tn n3 ct, .slice rn n4 cr] 101)).alloc (.cells #[.int .i64 0, .slice none 0 0, .slice none 0 0, .slice none 0 0, .slice none 0 0] 107)).alloc (.cells #[.int .i64 d.ty, .slice none 0 0, .slice bn n2 cb, .slice tn n3 ct, .slice rn n4 cr] 107)) = W0 → Below w.heap.size w W0 ∧ (∀ (j : Nat) (z : Value), [Value.int .i64 d.ty, .slice an n1 ca, .slice bn n2 cb, .slice tn n3 ct, .slice rn n4 cr][j]? = some z → W0.cell? ⟨w.heap.size, j, none⟩ = some z) ∧ W0.heap[w.heap.size + 1]? = some (.cells #[.int .i64 0, .slice none 0 0, .slice none 0 0, .slice none 0 0, .slice none 0 0] 107) ∧ W0.heap[w.heap.size + 1 + 1]? = some (.cells #[.int .i64 d.ty, .slice none 0 0, .slice bn n2 cb, .slice tn n3 ct, .slice rn n4 cr] 107) := by
    rintro W0 rfl
    have hz1 : (w.alloc (.cells #[.int .i64 d.ty, .slice an n1 ca, .slice bn n2 cb, .slice tn n3 ct, .slice rn n4 cr] 101)).heap.size = w.heap.size + 1 := by simp
    have hz2 : ((w.alloc (.cells #[.int .i64 d.ty, .slice an n1 ca, .slice bn n2 cb, .slice tn n3 ct, .slice rn n4 cr] 101)).alloc (.cells #[.int .i64 0, .slice none 0 0, .slice none 0 0, .slice none 0 0, .slice none 0 0] 107)).heap.size = w.heap.size + 1 + 1 := by simp
    have e0 := new_at w [.int .i64 d.ty, .slice an n1 ca, .slice bn n2 cb, .slice tn n3 ct, .slice rn n4 cr] 101
    have e1 := block_new (w.alloc (.cells #[.int .i64 d.ty, .slice an n1 ca, .slice bn n2 cb, .slice tn n3 ct, .slice rn n4 cr] 101)) (.cells #[.int .i64 0, .slice none 0 0, .slice none 0 0, .slice none 0 0, .slice none 0 0] 107)
    have e2 := block_new ((w.alloc (.cells #[.int .i64 d.ty, .slice an n1 ca, .slice bn n2 cb, .slice tn n3 ct, .slice rn n4 cr] 101)).alloc (.cells #[.int .i64 0, .slice none 0 0, .slice none 0 0, .slice none 0 0, .slice none 0 0] 107)) (.cells #[.int .i64 d.ty, .slice none 0 0, .slice bn n2 cb, .slice tn n3 ct, .slice rn n4 cr] 107)
    rw [hz1] at e1
    rw [hz2] at e2
    have b1 : Below (w.heap.size + 1) (w.alloc (.cells #[.int .i64 d.ty, .slice an n1 ca, .slice bn n2 cb, .slice tn n3 ct, .slice rn n4 cr] 101)) (((w.alloc (.cells #[.int .i64 d.ty, .slice an n1 ca, .slice bn n2 cb, .slice tn n3 ct, .slice rn n4 cr] 101)).alloc (.cells #[.int .i64 0, .slice none 0 0, .slice none 0 0, .slice none 0 0, .slice none 0 0] 107)).alloc (.cells #[.int .i64 d.ty, .slice none 0 0, .slice bn n2 cb, .slice tn n3 ct, .slice rn n4 cr] 107)) := ((Below.refl _ _).alloc (by simp) _).alloc (by simp) _
    have b2 : Below (w.heap.size + 1 + 1) ((w.alloc (.cells #[.int .i64 d.ty, .slice an n1 ca, .slice bn n2 cb, .slice tn n3 ct, .slice rn n4 cr] 101)).alloc (.cells #[.int .i64 0, .slice none 0 0, .slice none 0 0, .slice none 0 0, .slice none 0 0] 107)) (((w.alloc (.cells #[.int .i64 d.ty, .slice an n1 ca, .slice bn n2 cb, .slice tn n3 ct, .slice rn n4 cr] 101)).alloc (.cells #[.int .i64 0, .slice none 0 0, .slice none 0 0, .slice none 0 0, .slice none 0 0] 107)).alloc (.cells #[.int .i64 d.ty, .slice none 0 0, .slice bn n2 cb, .slice tn n3 ct, .slice rn n4 cr] 107)) := (Below.refl _ _).alloc (by simp) _
    refine ⟨(((Below.refl _ w).alloc (Nat.le_refl _) _).alloc (by simp) _).alloc (by simp; omega) _, fun j z h => (b1.cell (p := ⟨w.heap.size, j, none⟩) (Nat.lt_succ_self _)).trans (e0 j z h), (b2.block _ (Nat.lt_succ_self _)).trans e1, e2⟩
  generalize hW0 : (((w.alloc (.cells #[.int .i64 d.ty, .slice an n1 ca, .slice bn n2 cb, .slice tn n3 ct, .slice rn n4 cr] 101)).alloc (.cells #[.int .i64 0, .slice none 0 0, .slice none 0 0, .slice none 0 0, .slice none 0 0] 107)).alloc (.cells #[.int .i64 d.ty, .slice none 0 0, .slice bn n2 cb, .slice tn n3 ct, .slice rn n4 cr] 107)) = W0
  obtain ⟨k1, k2, k3, k4⟩ := hW W0 hW0
  clear hW hW0
  have K1 := Lib.hid k1; have K2 := Lib.hid k2; have K3 := Lib.hid k3; have K4 := Lib.hid k4
  clear k1 k2 k3 k4
  go_wp2_with fail
  go_loopw [4] (fun i wr => ∃ (k : Nat) (a : Option Addr) (c : Nat), i = .int .i64 k ∧ k ≤ n1 ∧ Hid (OwnG 23 slEnc wr (w.heap.size + 3) (.slice a k c) (ss.take k)) ∧ Hid (wr.heap[w.heap.size + 1 + 1]? = some (.cells #[.int .i64 d.ty, .slice a k c, .slice bn n2 cb, .slice tn n3 ct, .slice rn n4 cr] 107)) ∧ Hid (Below (w.heap.size + 2) W0 wr)) (fun i _ => n1 - (intOf i).toNat)
  case atStart => exact ⟨0, none, 0, rfl, Nat.zero_le _, Lib.hid (OwnG.nil _ _), K4, Lib.hid (Below.refl _ _)⟩
  case round =>
    obtain ⟨k, a, c, rfl, hkn, HOW, HBX, HB⟩ := hrel
    have hx1 := (HB.out.cell (p := ⟨w.heap.size, 1, none⟩) (by show w.heap.size < _; omega)).trans (K2.out 1 _ rfl)
    have hx3 := cell_of_block HBX.out 1 _ rfl
    have hB0 := K1.out.trans (HB.out.mono (by omega))
    have hsz := block_lt HBX.out
    by_cases hlt : k < n1
    · have hks : k < ss.length := by rw [E1.out]; exact hlt
      obtain ⟨g, off, rfl, hg, hc⟩ := HCA.out wr hB0 k (by rw [List.length_map]; exact hks)
      rw [List.getElem_map] at hc
      have HTK := Lib.hid (show ss.take (k + 1) = ss.take k ++ [ss[k]] from List.take_succ_eq_append_getElem hks)
      obtain ⟨⟨pa, pn, pc⟩, hp⟩ : ∃ s, ss[k] = s := ⟨_, rfl⟩
      rw [hp] at hc HTK
      unfold slEnc at hc
      simp only at hc
      have hkn1 : (0 : Int) ≤ (k : Int) := by omega
      have hkn2 : (k : Int) < (n1 : Int) := by omega
      have HH := Lib.hid (And.intro hg (And.intro hsz hlt))
      obtain ⟨ht0, i0, zz, hi, hz0, hz1, hz2, hzc⟩ := elemStrs
      have hown2 : wr.ownsRow (w.heap.size + 3) 23 1 (.slice a k c) k ((ss.take k).map slEnc) := by
        have h := HOW.out
        unfold OwnG at h
        rw [List.length_take, Nat.min_eq_left (by omega)] at h
        exact h
      have HOB := Lib.hid HOW.out.base_le
      have hAw : ∀ W, Below wr.heap.size wr W → W.cell? ⟨w.heap.size, 1, none⟩ = some (.slice (some ⟨g, off, none⟩) n1 ca) ∧ W.cell? ⟨g, off + k, none⟩ = some (.slice pa pn pc) ∧ W.cell? ⟨w.heap.size + 1 + 1, 1, none⟩ = some (.slice a k c) := fun W hb =>
        ⟨(hb.cell (p := ⟨w.heap.size, 1, none⟩) (by show w.heap.size < _; omega)).trans hx1, (hb.cell (p := ⟨g, off + k, none⟩) (by show g < _; omega)).trans hc, (hb.cell (p := ⟨w.heap.size + 1 + 1, 1, none⟩) hsz).trans hx3⟩
      obtain ⟨da1, da2, da3⟩ := hAw wr.drew (below_drew1 (Below.refl _ _))
      obtain ⟨db1, db2, db3⟩ := hAw (wr.drew.alloc (.cells #[.slice pa pn pc] 23)) ((below_drew1 (Below.refl _ _)).alloc (Nat.le_refl _) _)
      have HBY : Hid ((wr.drew.alloc (.cells #[.slice pa pn pc] 23)).heap[w.heap.size + 1 + 1]? = some (.cells #[.int .i64 d.ty, .slice a k c, .slice bn n2 cb, .slice tn n3 ct, .slice rn n4 cr] 107)) := Lib.hid ((((below_drew1 (Below.refl wr.heap.size wr)).alloc (Nat.le_refl _) _).block _ hsz).trans HBX.out)
      have HOY : Hid (OwnG 23 slEnc (wr.drew.alloc (.cells #[.slice pa pn pc] 23)) (w.heap.size + 3) (.slice a k c) (ss.take k)) := Lib.hid (HOW.out.drew.alloc _)
      have HH := Lib.hid (And.intro hg (And.intro hsz hlt))
      clear hp hks hB0 hg hlt hAw
      go_wp2_with fail
      go_region_law (first
        | (refine step_append_lies _ (by rfl) _ _ _ (by rfl) (w.heap.size + 3) 23 i0 zz 1 24 ht0 hi hz0 hz1 hz2 hzc (by omega) (.slice a k c) k ((ss.take k).map slEnc) (by rfl) ((hown2.drew).alloc _)
            ⟨wr.heap.size, 0, none⟩ 1 1 [.slice pa pn pc] (by rfl) (by rfl) (World.news_of_block (cs := #[.slice pa pn pc]) (t := 23) (fr := (0, 0)) (heap_alloc_new wr _)) (by simp [Value.oneCell'])
            (by omega) (by unfold maxLen; omega) (by omega) (by simp; omega) (wr.heap.size + 1) (by simp) ?_; intro gg cap w6 hown6 hgrow hat hlt6; have hbx6 := Lib.hid ((hgrow.block (w.heap.size + 1 + 1) (block_lt HBY.out) (HOY.out.ne_block HBY.out (by decide))).trans HBY.out); have hc6 := cell_of_block hbx6.out 1 _ rfl; have hf6 := frozen_block hbx6.out 1))
      all_goals
        have HO6 := Lib.hid (show OwnG 23 slEnc (w6.setCell ⟨w.heap.size + 1 + 1, 1, none⟩ (.slice (some ⟨gg, 0, none⟩) (k + 1) cap)) (w.heap.size + 3) (.slice (some ⟨gg, 0, none⟩) (k + 1) cap) (ss.take (k + 1)) from by
          refine OwnG.keptB (cs := #[.int .i64 d.ty, .slice a k c, .slice bn n2 cb, .slice tn n3 ct, .slice rn n4 cr]) (t := 107) ?_ hbx6.out (by decide) 1 _
          unfold OwnG
          rw [HTK.out, List.length_append, List.map_append, List.length_take, Nat.min_eq_left (by have := HH.out.2.2; have := E1.out; omega)]
          exact hown6)
        have HX6 := Lib.hid (show (w6.setCell ⟨w.heap.size + 1 + 1, 1, none⟩ (.slice (some ⟨gg, 0, none⟩) (k + 1) cap)).heap[w.heap.size + 1 + 1]? = some (.cells #[.int .i64 d.ty, .slice (some ⟨gg, 0, none⟩) (k + 1) cap, .slice bn n2 cb, .slice tn n3 ct, .slice rn n4 cr] 107) from block_set hbx6.out 1 _)
        have HB6 := Lib.hid (show Below (w.heap.size + 2) W0 (w6.setCell ⟨w.heap.size + 1 + 1, 1, none⟩ (.slice (some ⟨gg, 0, none⟩) (k + 1) cap)) from
          HB.out.trans ((((below_drew1 (Below.refl (w.heap.size + 2) wr)).alloc (by show w.heap.size + 2 ≤ wr.heap.size; omega) _).grown hgrow (by simp; omega) (fun x e => by have := HOB.out x e; omega)).setCell (p := ⟨w.heap.size + 1 + 1, 1, none⟩) (by show w.heap.size + 2 ≤ w.heap.size + 1 + 1; omega) _))
        have hltk := HH.out.2.2
        clear hown6 hgrow hat hlt6 hc6 hf6 hown2 da1 da2 da3 db1 db2 db3 hx1 hx3 hc
        go_wp2_with fail
        go_roundw
        case rel => exact ⟨k + 1, some ⟨gg, 0, none⟩, cap, by go_num, by omega, HO6, HX6, HB6⟩
        case measure => simp [intOf]; omega
    · obtain rfl : k = n1 := by omega
      have hkn3 : ¬ (k : Int) < (k : Int) := by omega
      have hR := (HB.out.block (w.heap.size + 1) (by omega)).trans K3.out
      obtain ⟨r0, r1, r2, r3, r4⟩ := cells5' HBX.out
      obtain ⟨f0, f1, f2, f3, f4⟩ := frozen5' hR
      obtain ⟨s0, s1, s2, s3, s4⟩ := cells5' hR
      have HR := Lib.hid hR
      have HB0 := Lib.hid hB0
      obtain ⟨q0, q1, q2, q3, q4⟩ := cells5' (set5_block' hR (.int .i64 d.ty) (.slice a k c) (.slice bn n2 cb) (.slice tn n3 ct) (.slice rn n4 cr))
      unfold set5 at q0 q1 q2 q3 q4
      clear hR hB0 hx3 hsz
      go_wp2_with fail
      refine bodyPost_ret (v := .agg #[.int .i64 d.ty, .slice a k c, .slice bn n2 cb, .slice tn n3 ct, .slice rn n4 cr]) (by simp [results, Tryz.results78, go_sem, q0, q1, q2, q3, q4]) rfl ?_
      have ho := ownG_set5 HR.out (.int .i64 d.ty) (.slice a k c) (.slice bn n2 cb) (.slice tn n3 ct) (.slice rn n4 cr) (by decide) HOW.out
      have ht : ss.take k = ss := List.take_of_length_le (by rw [E1.out]; exact Nat.le_refl _)
      rw [ht] at ho
      exact ⟨_, _, _, _, _, ss, rfl, rfl, ho.weaken (by omega), SL.out, fun j h1 h2 => (by have h := HNA.out j (by rw [List.length_map]; exact h1) h2; rw [List.getElem_map] at h; exact h), HA2.out, HA3.out, HA4.out, HB0.out.trans ((set5_below (Below.refl (w.heap.size + 1) wr) _ _ _ _ _).mono (by omega))⟩
end Go.Proofs.YtckammgnmgkieaaGreat

