/-
  The law's Is: data that are the same, octet by octet. (Written by wip/tools/gen17.py.)
-/
import Derived.Test.YtckammgnmgkieaaGreatMQ02
import Derived.Test.YtckammgnmgkieaaGreatMQ13
import Derived.Test.YtckammgnmgkieaaGreatMQ20
namespace Go.Proofs.YtckammgnmgkieaaGreat
set_option maxRecDepth 20000
open Go.RowKit Go.Shelf
set_option maxRecDepth 20000

set_option maxRecDepth 100000 in
set_option maxHeartbeats 16000000 in
theorem law4_Is (va vb : Value) (d : Dat) (w : World) (hA : DatAt w va d) (hB : DatAt w vb d) (hk : DatOK d) :
    Calls Tryz.prog 69 #[va, vb] w fun e w' => e = .returned (.bool true) ∧ Below w.heap.size w w' := by
  obtain ⟨vn, vu, vt, vr, rfl, ⟨vs, s1, sl, s2⟩, p2, p3, p4⟩ := hA
  obtain ⟨un, uu, ut, ur, rfl, ⟨us, t1, tl, t2⟩, q2, q3, q4⟩ := hB
  obtain ⟨a1, c1, rfl, _⟩ := id s1
  obtain ⟨a2, c2, rfl, _⟩ := id p2
  obtain ⟨a3, c3, rfl, _⟩ := id p3.1
  obtain ⟨a4, c4, rfl, _⟩ := id p4
  obtain ⟨b1, d1, rfl, _⟩ := id t1
  obtain ⟨b2, d2, rfl, _⟩ := id q2
  obtain ⟨b3, d3, rfl, _⟩ := id q3.1
  obtain ⟨b4, d4, rfl, _⟩ := id q4
  rw [List.length_map] at p2 p4 q2 q4
  have HCA := Lib.hid (fun (W : World) (hb : Below w.heap.size w W) j (hj : j < vs.length) => s1.cell hb j hj)
  have HCB := Lib.hid (fun (W : World) (hb : Below w.heap.size w W) j (hj : j < us.length) => t1.cell hb j hj)
  have HUA := Lib.hid (fun (W : World) (hb : Below w.heap.size w W) j hj => p2.cell hb j hj)
  have HUB := Lib.hid (fun (W : World) (hb : Below w.heap.size w W) j hj => q2.cell hb j hj)
  have HNA : Hid (∀ W (_ : Below w.heap.size w W) j (_ : j < vs.length) (h2 : j < d.names.length), NmAt W vs[j] d.names[j]) := Lib.hid (fun W hb j h1 _ => (s2 j h1).below hb)
  have HNB : Hid (∀ W (_ : Below w.heap.size w W) j (_ : j < us.length) (h2 : j < d.names.length), NmAt W us[j] d.names[j]) := Lib.hid (fun W hb j h1 _ => (t2 j h1).below hb)
  have HNK := Lib.hid hk.2.2.1
  have HUK := Lib.hid hk.2.2.2.2.1
  have HTX := Lib.hid (fun (W : World) (hb : Below w.heap.size w W) => kn_Is _ _ d.texts d.texts true (by simp) W (p3.below hb) (q3.below hb) hk.2.2.2.2.2.1)
  have hcv1 : ∀ W, Below w.heap.size w W → (convert 99 9 (.slice a4 d.raw.length c4)).run Tryz.prog W = .ok (.string ⟨d.raw.toArray⟩) W := fun W hb => bytes_string (p4.below hb)
  have hcv2 : ∀ W, Below w.heap.size w W → (convert 99 9 (.slice b4 d.raw.length d4)).run Tryz.prog W = .ok (.string ⟨d.raw.toArray⟩) W := fun W hb => bytes_string (q4.below hb)
  have hn1b : d.names.length ≤ 1048576 := hk.2.1
  have hn2b : d.nums.length ≤ 1048576 := hk.2.2.2.1
  rw [List.length_map, List.length_map, sl, tl]
  have HVL := Lib.hid sl; have HUL := Lib.hid tl
  obtain ⟨n1, e1⟩ : ∃ n, d.names.length = n := ⟨_, rfl⟩
  obtain ⟨n2, e2⟩ : ∃ n, d.nums.length = n := ⟨_, rfl⟩
  obtain ⟨n3, e3⟩ : ∃ n, d.texts.length = n := ⟨_, rfl⟩
  obtain ⟨n4, e4⟩ : ∃ n, d.raw.length = n := ⟨_, rfl⟩
  obtain ⟨x, e0⟩ : ∃ x, d.ty = x := ⟨_, rfl⟩
  have E1 := Lib.hid e1; have E2 := Lib.hid e2
  rw [e3] at HTX
  rw [e4] at hcv1 hcv2
  rw [e1] at hn1b; rw [e2] at hn2b
  rw [e0, e1, e2, e3, e4]
  generalize d.raw = raw at *
  clear s1 s2 t1 t2 p2 p3 p4 q2 q3 q4 sl tl hk e0 e1 e2 e3 e4
  have hb0 : Below w.heap.size w ((w.alloc (.cells #[.int .i64 x, .slice a1 n1 c1, .slice a2 n2 c2, .slice a3 n3 c3, .slice a4 n4 c4] 107)).alloc (.cells #[.int .i64 x, .slice b1 n1 d1, .slice b2 n2 d2, .slice b3 n3 d3, .slice b4 n4 d4] 107)) := ((Below.refl _ w).alloc (Nat.le_refl _) _).alloc (by simp) _
  have hbx := block_new w (.cells #[.int .i64 x, .slice a1 n1 c1, .slice a2 n2 c2, .slice a3 n3 c3, .slice a4 n4 c4] 107)
  have hby := block_new (w.alloc (.cells #[.int .i64 x, .slice a1 n1 c1, .slice a2 n2 c2, .slice a3 n3 c3, .slice a4 n4 c4] 107)) (.cells #[.int .i64 x, .slice b1 n1 d1, .slice b2 n2 d2, .slice b3 n3 d3, .slice b4 n4 d4] 107)
  rw [World.size_alloc] at hby
  have hbx : ((w.alloc (.cells #[.int .i64 x, .slice a1 n1 c1, .slice a2 n2 c2, .slice a3 n3 c3, .slice a4 n4 c4] 107)).alloc (.cells #[.int .i64 x, .slice b1 n1 d1, .slice b2 n2 d2, .slice b3 n3 d3, .slice b4 n4 d4] 107)).heap[w.heap.size]? = some (.cells #[.int .i64 x, .slice a1 n1 c1, .slice a2 n2 c2, .slice a3 n3 c3, .slice a4 n4 c4] 107) := (((Below.refl (w.heap.size + 1) (w.alloc (.cells #[.int .i64 x, .slice a1 n1 c1, .slice a2 n2 c2, .slice a3 n3 c3, .slice a4 n4 c4] 107))).alloc (by simp) (.cells #[.int .i64 x, .slice b1 n1 d1, .slice b2 n2 d2, .slice b3 n3 d3, .slice b4 n4 d4] 107)).block _ (Nat.lt_succ_self _)).trans hbx
  obtain ⟨x0, x1, x2, x3, x4⟩ := cells5' hbx
  obtain ⟨y0, y1, y2, y3, y4⟩ := cells5' hby
  have hv1 := hcv1 _ hb0
  have hv2 := hcv2 _ hb0
  have HB0 := Lib.hid hb0
  have HBX := Lib.hid (fun (W : World) (hb : Below (w.heap.size + 2) ((w.alloc (.cells #[.int .i64 x, .slice a1 n1 c1, .slice a2 n2 c2, .slice a3 n3 c3, .slice a4 n4 c4] 107)).alloc (.cells #[.int .i64 x, .slice b1 n1 d1, .slice b2 n2 d2, .slice b3 n3 d3, .slice b4 n4 d4] 107)) W) => cells5' ((hb.block w.heap.size (by omega)).trans hbx))
  have HBY := Lib.hid (fun (W : World) (hb : Below (w.heap.size + 2) ((w.alloc (.cells #[.int .i64 x, .slice a1 n1 c1, .slice a2 n2 c2, .slice a3 n3 c3, .slice a4 n4 c4] 107)).alloc (.cells #[.int .i64 x, .slice b1 n1 d1, .slice b2 n2 d2, .slice b3 n3 d3, .slice b4 n4 d4] 107)) W) => cells5' ((hb.block (w.heap.size + 1) (by omega)).trans hby))
  have HSZ : Hid (w.heap.size + 2 ≤ ((w.alloc (.cells #[.int .i64 x, .slice a1 n1 c1, .slice a2 n2 c2, .slice a3 n3 c3, .slice a4 n4 c4] 107)).alloc (.cells #[.int .i64 x, .slice b1 n1 d1, .slice b2 n2 d2, .slice b3 n3 d3, .slice b4 n4 d4] 107)).heap.size) := Lib.hid (by simp)
  clear hcv1 hcv2 hb0 hbx hby
  go_enter Tryz.func69, Tryz.ntmps69
  go_wp2_with fail
  obtain ⟨W0, hW0⟩ : ∃ W0, (w.alloc (.cells #[.int .i64 x, .slice a1 n1 c1, .slice a2 n2 c2, .slice a3 n3 c3, .slice a4 n4 c4] 107)).alloc (.cells #[.int .i64 x, .slice b1 n1 d1, .slice b2 n2 d2, .slice b3 n3 d3, .slice b4 n4 d4] 107) = W0 := ⟨_, rfl⟩
  rw [hW0] at HBX HBY HB0 HSZ ⊢
  clear hW0 x0 x1 x2 x3 x4 y0 y1 y2 y3 y4 hv1 hv2
  go_loopw [5] (fun i wr => ∃ k : Nat, i = .int .i64 (k : Int) ∧ k ≤ n1 ∧ Hid (Below (w.heap.size + 2) W0 wr)) (fun i _ => n1 - (intOf i).toNat)
  case atStart => exact ⟨0, rfl, Nat.zero_le _, Lib.hid (Below.refl _ _)⟩
  case round =>
    obtain ⟨k, rfl, hk0, HB⟩ := hrel
    have hBw : Below w.heap.size w wr := HB0.out.trans (HB.out.mono (by omega))
    have hx1 := (HBX.out _ HB.out).2.1
    have hy1 := (HBY.out _ HB.out).2.1
    by_cases hlt : k < n1
    · have hkd : k < d.names.length := by rw [E1.out]; exact hlt
      have hkv : k < vs.length := by rw [HVL.out]; exact hkd
      have hku : k < us.length := by rw [HUL.out]; exact hkd
      obtain ⟨g, off, rfl, hg, hc⟩ := HCA.out w (Below.refl _ _) k hkv
      obtain ⟨g2, off2, rfl, hg2, hc2⟩ := HCB.out w (Below.refl _ _) k hku
      have hna := HNA.out w (Below.refl _ _) k hkv hkd
      have hnb := HNB.out w (Below.refl _ _) k hku hkd
      have hnk := HNK.out _ (List.getElem_mem hkd)
      obtain ⟨⟨pa, pc, ep, _⟩, _⟩ := id hna
      obtain ⟨⟨pb, pd, eq, _⟩, _⟩ := id hnb
      rw [ep] at hc hna
      rw [eq] at hc2 hnb
      generalize d.names[k] = nm at *
      obtain ⟨pn, hpn⟩ : ∃ n, nm.length = n := ⟨_, rfl⟩
      rw [hpn] at hc hna hc2 hnb
      have hlti : (k : Int) < (n1 : Int) := by omega
      have hk00 : (0 : Int) ≤ (k : Int) := by omega
      have KD : ∀ W : World, Below (w.heap.size + 2) W0 W → (W.cell? ⟨w.heap.size, 1, none⟩ = some (.slice (some ⟨g, off, none⟩) n1 c1) ∧ W.cell? ⟨w.heap.size + 1, 1, none⟩ = some (.slice (some ⟨g2, off2, none⟩) n1 d1) ∧ W.cell? ⟨g, off + k, none⟩ = some (.slice pa pn pc) ∧ W.cell? ⟨g2, off2 + k, none⟩ = some (.slice pb pn pd) ∧ Below (w.heap.size + 2) W0 W) := fun W hb =>
        ⟨(HBX.out W hb).2.1, (HBY.out W hb).2.1, ((HB0.out.trans (hb.mono (by omega))).cell (p := ⟨g, off + k, none⟩) hg).trans hc, ((HB0.out.trans (hb.mono (by omega))).cell (p := ⟨g2, off2 + k, none⟩) hg2).trans hc2, hb⟩
      have KS := Lib.hid (fun (W W' : World) (h : (W.cell? ⟨w.heap.size, 1, none⟩ = some (.slice (some ⟨g, off, none⟩) n1 c1) ∧ W.cell? ⟨w.heap.size + 1, 1, none⟩ = some (.slice (some ⟨g2, off2, none⟩) n1 d1) ∧ W.cell? ⟨g, off + k, none⟩ = some (.slice pa pn pc) ∧ W.cell? ⟨g2, off2 + k, none⟩ = some (.slice pb pn pd) ∧ Below (w.heap.size + 2) W0 W)) (hb : Below W.heap.size W W') => KD W' (h.2.2.2.2.trans (hb.mono (by have := h.2.2.2.2.size; have := HSZ.out; omega))))
      have KR := Lib.hid (fun (W : World) (h : (W.cell? ⟨w.heap.size, 1, none⟩ = some (.slice (some ⟨g, off, none⟩) n1 c1) ∧ W.cell? ⟨w.heap.size + 1, 1, none⟩ = some (.slice (some ⟨g2, off2, none⟩) n1 d1) ∧ W.cell? ⟨g, off + k, none⟩ = some (.slice pa pn pc) ∧ W.cell? ⟨g2, off2 + k, none⟩ = some (.slice pb pn pd) ∧ Below (w.heap.size + 2) W0 W)) => KD W.drew (below_drew1 h.2.2.2.2))
      have HIs := Lib.hid (fun (W : World) (h : (W.cell? ⟨w.heap.size, 1, none⟩ = some (.slice (some ⟨g, off, none⟩) n1 c1) ∧ W.cell? ⟨w.heap.size + 1, 1, none⟩ = some (.slice (some ⟨g2, off2, none⟩) n1 d1) ∧ W.cell? ⟨g, off + k, none⟩ = some (.slice pa pn pc) ∧ W.cell? ⟨g2, off2 + k, none⟩ = some (.slice pb pn pd) ∧ Below (w.heap.size + 2) W0 W)) => kn_Is _ _ nm nm true (by simp) W (hna.below (HB0.out.trans (h.2.2.2.2.mono (by omega)))) (hnb.below (HB0.out.trans (h.2.2.2.2.mono (by omega)))) hnk)
      have hS := KD wr HB.out
      clear KD hc hc2 hna hnb ep eq hpn
      go_wp2_with fail
      clear hx1 hy1
      go_region_held3 (fun W => (W.cell? ⟨w.heap.size, 1, none⟩ = some (.slice (some ⟨g, off, none⟩) n1 c1) ∧ W.cell? ⟨w.heap.size + 1, 1, none⟩ = some (.slice (some ⟨g2, off2, none⟩) n1 d1) ∧ W.cell? ⟨g, off + k, none⟩ = some (.slice pa pn pc) ∧ W.cell? ⟨g2, off2 + k, none⟩ = some (.slice pb pn pd) ∧ Below (w.heap.size + 2) W0 W)) (first | assumption | exact KR.out _ (by assumption)) (first
        | ((with_reducible refine (HIs.out _ (by assumption)).mono ?_); rintro e w2 ⟨rfl, hb2⟩; have hS2 := KS.out _ _ (by assumption) hb2))
      all_goals
        rename_i hSe
        have HB3 := Lib.hid hSe.2.2.2.2
        clear hSe
        go_wp2_with fail
        go_roundw
        case rel => exact ⟨k + 1, by go_num, by omega, HB3⟩
        case measure => simp [intOf]; omega
    · obtain rfl : k = n1 := by omega
      obtain ⟨WS, hWS⟩ : ∃ W, wr = W := ⟨_, rfl⟩
      rw [hWS] at HB hBw hx1 hy1 ⊢
      clear hWS wr
      go_wp2_with fail
      go_loopw [6] (fun i wr => ∃ j : Nat, i = .int .i64 (j : Int) ∧ j ≤ n2 ∧ Hid (Below (w.heap.size + 2) W0 wr)) (fun i _ => n2 - (intOf i).toNat)
      case atStart => exact ⟨0, rfl, Nat.zero_le _, HB⟩
      case round =>
        clear hx1 hy1 hBw HB
        obtain ⟨j, rfl, hj0, HB⟩ := hrel
        have hBw : Below w.heap.size w wr := HB0.out.trans (HB.out.mono (by omega))
        obtain ⟨-, -, hx2, hx3, -⟩ := HBX.out _ HB.out
        obtain ⟨-, -, hy2, hy3, -⟩ := HBY.out _ HB.out
        by_cases hlt2 : j < n2
        · have hjd : j < d.nums.length := by rw [E2.out]; exact hlt2
          obtain ⟨g, off, rfl, hg, hc⟩ := HUA.out wr hBw j (by rw [List.length_map]; exact hjd)
          obtain ⟨g2, off2, rfl, hg2, hc2⟩ := HUB.out wr hBw j (by rw [List.length_map]; exact hjd)
          rw [List.getElem_map] at hc hc2
          unfold u32V at hc hc2
          have hm := HUK.out _ (List.getElem_mem hjd)
          generalize d.nums[j] = m at *
          have hlti : (j : Int) < (n2 : Int) := by omega
          have hk00 : (0 : Int) ≤ (j : Int) := by omega
          have HBr := Lib.hid (show Below (w.heap.size + 2) W0 wr.drew from below_drew1 HB.out)
          go_wp2_with fail
          go_region
          all_goals
            go_wp2_with fail
            go_roundw
            case rel => exact ⟨j + 1, by go_num, by omega, HBr⟩
            case measure => simp [intOf]; omega
        · obtain rfl : j = n2 := by omega
          go_wp2_with (go_at_call 20; refine (HTX.out _ hBw).mono ?_; rintro e w2 ⟨rfl, hb2⟩)
          go_ret
          exact ⟨rfl, hBw.trans (hb2.mono hBw.size)⟩
end Go.Proofs.YtckammgnmgkieaaGreat

