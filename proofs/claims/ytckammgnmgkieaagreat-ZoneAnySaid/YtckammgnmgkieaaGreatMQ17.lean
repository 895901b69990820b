/-
  rset.Sets once more: all that it makes lies behind what was there. (Written by wip/tools/gensetef.py.)
-/
import Derived.Test.YtckammgnmgkieaaGreatMQ39
import Derived.Test.YtckammgnmgkieaaGreatMQ08
import Derived.Test.YtckammgnmgkieaaGreatMQ30
import Derived.Test.YtckammgnmgkieaaGreatMQ03
import Derived.Test.YtckammgnmgkieaaGreatMQ41
import Derived.Test.YtckammgnmgkieaaGreatMQ29
import Derived.Test.YtckammgnmgkieaaGreatMQ12
import Derived.Test.YtckammgnmgkieaaGreatMQ22
import Derived.Test.YtckammgnmgkieaaGreatMQ42
import Derived.Test.YtckammgnmgkieaaGreatMQ33
namespace Go.Proofs.YtckammgnmgkieaaGreat
set_option maxRecDepth 20000
open Go.RowKit Go.Shelf
set_option maxRecDepth 20000
set_option linter.unusedVariables false
set_option linter.unusedSimpArgs false
def FarKeep (n : Nat) (W W' : World) : Prop := ∀ g, n ≤ g → g < W.heap.size → W'.heap[g]? = W.heap[g]?
theorem FarKeep.mono {n m : Nat} {W W' : World} (h : FarKeep n W W') (hm : n ≤ m) : FarKeep m W W' := fun g h1 h2 => h g (by omega) h2
theorem own_move {W W' : World} {base : Nat} {T : TypeId} {k n : Nat} {v : Value} {cells : List Value} (h : W.ownsRow base T k v n cells) (hf : FarKeep base W W') : W'.ownsRow base T k v n cells := by
  refine ⟨h.1, ?_⟩
  rcases h.2 with h | ⟨g, cap, cur, e, hb, hg, h2⟩
  · exact .inl h
  · exact .inr ⟨g, cap, cur, e, hb, (hf g hb (kblock_lt hg)).trans hg, h2⟩
theorem OwnK.move {α : Type} {k : Nat} {T : TypeId} {enc : α → List Value} {W W' : World} {base : Nat} {v : Value} {xs : List α} (h : OwnK k T enc W base v xs) (hf : FarKeep base W W') : OwnK k T enc W' base v xs := own_move h hf
theorem OwnG.move {α : Type} {T : TypeId} {enc : α → Value} {W W' : World} {base : Nat} {v : Value} {xs : List α} (h : OwnG T enc W base v xs) (hf : FarKeep base W W') : OwnG T enc W' base v xs := own_move h hf
theorem FrAt.move {W W' : World} {base : Nat} {cs : List Value} {r : Rc} (h : FrAt W base cs r) (hf : FarKeep base W W') : FrAt W' base cs r := by
  obtain ⟨vo, vn, vu, vt, vr, e, h1, ⟨⟨vs, k1, k2, k3⟩, i1, i2, i3⟩⟩ := h
  exact ⟨vo, vn, vu, vt, vr, e, h1.move hf, ⟨⟨vs, k1.move hf, k2, fun i a b => (k3 i a b).move hf⟩, i1.move hf, i2.move hf, i3.move hf⟩⟩
section
attribute [local go_sem] Oper.semAt_some
end
end Go.Proofs.YtckammgnmgkieaaGreat

/-
  Rows of the document's data that law6 gathers.
-/
namespace Go.Proofs.YtckammgnmgkieaaGreat
open Go.RowKit Go.Shelf
set_option maxRecDepth 20000
set_option linter.unusedVariables false
set_option linter.unusedSimpArgs false
def OfD (w0 W : World) (base : Nat) (cs : List Value) (d : Dat) : Prop :=
  ∃ vn vu vt vr, ∃ ss : List SlV, cs = [.int .i64 d.ty, vn, vu, vt, vr] ∧ OwnG 23 slEnc W base vn ss ∧ ss.length = d.names.length ∧
    (∀ j (h1 : j < ss.length) (h2 : j < d.names.length), NmAt w0 (slEnc ss[j]) d.names[j]) ∧ SlAt w0 vu (d.nums.map u32V) ∧ NmAt w0 vt d.texts ∧ SlAt w0 vr (d.raw.map bv)
theorem OfD.datAt {w0 W : World} {base : Nat} {cs : List Value} {d : Dat} (h : OfD w0 W base cs d) (hb : Below w0.heap.size w0 W) : cs.length = 5 ∧ DatAt W (.agg cs.toArray) d := by
  obtain ⟨vn, vu, vt, vr, ss, rfl, h2, h3, h4, h5, h6, h7⟩ := h
  exact ⟨rfl, _, _, _, _, rfl, ⟨ss.map slEnc, SlAt.of_own h2, by rw [List.length_map]; exact h3, fun j hj => by rw [List.getElem_map]; exact (h4 j (by simpa using hj) (by rw [List.length_map] at hj; omega)).below hb⟩, h5.below hb, h6.below hb, h7.below hb⟩
theorem OfD.below {w0 W W' : World} {base : Nat} {cs : List Value} {d : Dat} (h : OfD w0 W base cs d) (hb : Below W.heap.size W W') : OfD w0 W' base cs d := by
  obtain ⟨vn, vu, vt, vr, ss, e, h2, h3⟩ := h
  exact ⟨vn, vu, vt, vr, ss, e, h2.below hb, h3⟩
theorem OfD.weaken {w0 W : World} {base b2 : Nat} {cs : List Value} {d : Dat} (h : OfD w0 W base cs d) (hb : b2 ≤ base) : OfD w0 W b2 cs d := by
  obtain ⟨vn, vu, vt, vr, ss, e, h2, h3⟩ := h
  exact ⟨vn, vu, vt, vr, ss, e, h2.weaken hb, h3⟩
theorem OfD.grown {w0 W W' : World} {base base' k : Nat} {T : TypeId} {cs : List Value} {d : Dat} {v' : Value} {yss : List (List Value)} (h : OfD w0 W base cs d) (h' : OwnC k T W base' v' yss) (hT : 23 ≠ T) (hg : W.grownBy W' v'.ownBlock) : OfD w0 W' base cs d := by
  obtain ⟨vn, vu, vt, vr, ss, e, h2, h3⟩ := h
  exact ⟨vn, vu, vt, vr, ss, e, h2.kept_c h' hT hg, h3⟩
def OfDs (w0 W : World) (base : Nat) (csd : List (List Value)) (l : List Dat) : Prop := csd.length = l.length ∧ ∀ j (h1 : j < csd.length) (h2 : j < l.length), OfD w0 W base csd[j] l[j]
theorem OfDs.below {w0 W W' : World} {base : Nat} {csd : List (List Value)} {l : List Dat} (h : OfDs w0 W base csd l) (hb : Below W.heap.size W W') : OfDs w0 W' base csd l := ⟨h.1, fun j a b => (h.2 j a b).below hb⟩
theorem elem_refD : ElemK 5 107 39 104 := ⟨Tryz.underlying39, _, _, rfl, rfl, rfl, rfl, rfl⟩
theorem OfDs.snoc {w0 W W' : World} {base : Nat} {v : Value} {csd : List (List Value)} {l : List Dat} {cs : List Value} {d : Dat} (h : OfDs w0 W base csd l) (ho : OwnC 5 107 W base v csd) (hc : OfD w0 W base cs d) (hg : W.grownBy W' v.ownBlock) : OfDs w0 W' base (csd ++ [cs]) (l ++ [d]) := by
  refine ⟨by simp [h.1], fun j a b => ?_⟩
  by_cases hj : j < csd.length
  · rw [List.getElem_append_left hj, List.getElem_append_left (by have := h.1; omega)]
    exact (h.2 j hj (by have := h.1; omega)).grown ho (by decide) hg
  · obtain rfl : j = csd.length := by simp at a; omega
    have e1 : (csd ++ [cs])[csd.length]'a = cs := by simp
    have e2 : (l ++ [d])[csd.length]'b = d := by simp [h.1]
    rw [e1, e2]
    exact hc.grown ho (by decide) hg
theorem OfPostS.cells {w0 w w' : World} {v : Value} {d : Dat} {e : Ending} (h : OfPostS w0 v d w e w') : ∃ cs, e = .returned (.agg cs.toArray) ∧ OfD w0 w' w.heap.size cs d ∧ Below w.heap.size w w' := by
  obtain ⟨vn, vn', vu, vt, vr, ss, rfl, rfl, h1, h2, h3, h4, h5, h6, h7⟩ := h
  exact ⟨[.int .i64 d.ty, vn', vu, vt, vr], rfl, ⟨vn', vu, vt, vr, ss, rfl, h1, h2, h3, h4, h5, h6⟩, h7⟩
theorem OfD.shape {w0 W : World} {base : Nat} {cs : List Value} {d : Dat} (h : OfD w0 W base cs d) : ∃ x3 x4 x5 x6 : Option Addr × Nat × Nat, cs = [.int .i64 d.ty, .slice x3.1 x3.2.1 x3.2.2, .slice x4.1 x4.2.1 x4.2.2, .slice x5.1 x5.2.1 x5.2.2, .slice x6.1 x6.2.1 x6.2.2] := by
  obtain ⟨vn, vu, vt, vr, ss, rfl, h2, h3, h4, h5, h6, h7⟩ := h
  obtain ⟨a3, c3, rfl⟩ := h2.shape
  obtain ⟨a4, c4, rfl, _⟩ := h5
  obtain ⟨a5, c5, rfl, _⟩ := nmAt_sl.1 h6
  obtain ⟨a6, c6, rfl, _⟩ := h7
  exact ⟨(a3, _, c3), (a4, _, c4), (a5, _, c5), (a6, _, c6), rfl⟩
end Go.Proofs.YtckammgnmgkieaaGreat

/-
  Plain facts for law6.SetsAll.
-/
namespace Go.Proofs.YtckammgnmgkieaaGreat
set_option maxRecDepth 20000
open Go.RowKit Go.Shelf
set_option maxRecDepth 20000
set_option linter.unusedVariables false
theorem sets_ok {l : List Rc} {s : St} (hl : ∀ r ∈ l, RcOK r) (h : s ∈ setsM (canonM l)) : NmOK s.owner ∧ ∀ d ∈ s.data, DatOK d := by
  obtain ⟨y, r, e1, e2, e3⟩ := sets_filter _ _ (Nat.le_refl _) (canonM_can l).up s h
  have hc := canonM_ok' l hl
  have hyr : ∀ z ∈ y :: r, RcOK z := fun z hz => hc z (by
    have : z ∈ (canonM l).filter (belM s.owner s.ty) := by rw [e3]; exact hz
    exact (List.mem_filter.1 this).1)
  rw [e1]
  refine ⟨(hyr y (by simp)).1, fun d hd => ?_⟩
  simp only [stR, List.mem_cons, List.mem_map] at hd
  rcases hd with rfl | ⟨z, hz, rfl⟩
  · exact (hyr y (by simp)).2.2
  · exact (hyr z (by simp [hz])).2.2
end Go.Proofs.YtckammgnmgkieaaGreat

/-
  The law's Is: data that are the same, octet by octet. (Written by wip/tools/gen17.py.)
-/
namespace Go.Proofs.YtckammgnmgkieaaGreat
open Go.RowKit Go.Shelf
set_option maxRecDepth 20000

set_option maxRecDepth 100000 in
set_option maxHeartbeats 16000000 in
theorem law4_Is (va vb : Value) (d : Dat) (w : World) (hA : DatAt w va d) (hB : DatAt w vb d) (hk : DatOK d) :
    Calls Tryz.prog 69 #[va, vb] w fun e w' => e = .returned (.bool true) ∧ Below w.heap.size w w' := by
  obtain ⟨vn, vu, vt, vr, rfl, ⟨vs, s1, sl, s2⟩, p2, p3, p4⟩ := hA
  obtain ⟨un, uu, ut, ur, rfl, ⟨us, t1, tl, t2⟩, q2, q3, q4⟩ := hB
  obtain ⟨a1, c1, rfl, _⟩ := id s1
  obtain ⟨a2, c2, rfl, _⟩ := id p2
  obtain ⟨a3, c3, rfl, _⟩ := id p3.1
  obtain ⟨a4, c4, rfl, _⟩ := id p4
  obtain ⟨b1, d1, rfl, _⟩ := id t1
  obtain ⟨b2, d2, rfl, _⟩ := id q2
  obtain ⟨b3, d3, rfl, _⟩ := id q3.1
  obtain ⟨b4, d4, rfl, _⟩ := id q4
  rw [List.length_map] at p2 p4 q2 q4
  have HCA := Lib.hid (fun (W : World) (hb : Below w.heap.size w W) j (hj : j < vs.length) => s1.cell hb j hj)
  have HCB := Lib.hid (fun (W : World) (hb : Below w.heap.size w W) j (hj : j < us.length) => t1.cell hb j hj)
  have HUA := Lib.hid (fun (W : World) (hb : Below w.heap.size w W) j hj => p2.cell hb j hj)
  have HUB := Lib.hid (fun (W : World) (hb : Below w.heap.size w W) j hj => q2.cell hb j hj)
  have HNA : Hid (∀ W (_ : Below w.heap.size w W) j (_ : j < vs.length) (h2 : j < d.names.length), NmAt W vs[j] d.names[j]) := Lib.hid (fun W hb j h1 _ => (s2 j h1).below hb)
  have HNB : Hid (∀ W (_ : Below w.heap.size w W) j (_ : j < us.length) (h2 : j < d.names.length), NmAt W us[j] d.names[j]) := Lib.hid (fun W hb j h1 _ => (t2 j h1).below hb)
  have HNK := Lib.hid hk.2.2.1
  have HUK := Lib.hid hk.2.2.2.2.1
  have HTX := Lib.hid (fun (W : World) (hb : Below w.heap.size w W) => kn_Is _ _ d.texts d.texts true (by simp) W (p3.below hb) (q3.below hb) hk.2.2.2.2.2.1)
  have hcv1 : ∀ W, Below w.heap.size w W → (convert 99 9 (.slice a4 d.raw.length c4)).run Tryz.prog W = .ok (.string ⟨d.raw.toArray⟩) W := fun W hb => bytes_string (p4.below hb)
  have hcv2 : ∀ W, Below w.heap.size w W → (convert 99 9 (.slice b4 d.raw.length d4)).run Tryz.prog W = .ok (.string ⟨d.raw.toArray⟩) W := fun W hb => bytes_string (q4.below hb)
  have hn1b : d.names.length ≤ 1048576 := hk.2.1
  have hn2b : d.nums.length ≤ 1048576 := hk.2.2.2.1
  rw [List.length_map, List.length_map, sl, tl]
  have HVL := Lib.hid sl; have HUL := Lib.hid tl
  obtain ⟨n1, e1⟩ : ∃ n, d.names.length = n := ⟨_, rfl⟩
  obtain ⟨n2, e2⟩ : ∃ n, d.nums.length = n := ⟨_, rfl⟩
  obtain ⟨n3, e3⟩ : ∃ n, d.texts.length = n := ⟨_, rfl⟩
  obtain ⟨n4, e4⟩ : ∃ n, d.raw.length = n := ⟨_, rfl⟩
  obtain ⟨x, e0⟩ : ∃ x, d.ty = x := ⟨_, rfl⟩
  have E1 := Lib.hid e1; have E2 := Lib.hid e2
  rw [e3] at HTX
  rw [e4] at hcv1 hcv2
  rw [e1] at hn1b; rw [e2] at hn2b
  rw [e0, e1, e2, e3, e4]
  generalize d.raw = raw at *
  clear s1 s2 t1 t2 p2 p3 p4 q2 q3 q4 sl tl hk e0 e1 e2 e3 e4
  have hb0 : Below w.heap.size w ((w.alloc (.cells #[.int .i64 x, .slice a1 n1 c1, .slice a2 n2 c2, .slice a3 n3 c3, .slice a4 n4 c4] 107)).alloc (.cells #[.int .i64 x, .slice b1 n1 d1, .slice b2 n2 d2, .slice b3 n3 d3, .slice b4 n4 d4] 107)) := ((Below.refl _ w).alloc (Nat.le_refl _) _).alloc (by simp) _
  have hbx := block_new w (.cells #[.int .i64 x, .slice a1 n1 c1, .slice a2 n2 c2, .slice a3 n3 c3, .slice a4 n4 c4] 107)
  have hby := block_new (w.alloc (.cells #[.int .i64 x, .slice a1 n1 c1, .slice a2 n2 c2, .slice a3 n3 c3, .slice a4 n4 c4] 107)) (.cells #[.int .i64 x, .slice b1 n1 d1, .slice b2 n2 d2, .slice b3 n3 d3, .slice b4 n4 d4] 107)
  rw [World.size_alloc] at hby
  have hbx : ((w.alloc (.cells #[.int .i64 x, .slice a1 n1 c1, .slice a2 n2 c2, .slice a3 n3 c3, .slice a4 n4 c4] 107)).alloc (.cells #[.int .i64 x, .slice b1 n1 d1, .slice b2 n2 d2, .slice b3 n3 d3, .slice b4 n4 d4] 107)).heap[w.heap.size]? = some (.cells #[.int .i64 x, .slice a1 n1 c1, .slice a2 n2 c2, .slice a3 n3 c3, .slice a4 n4 c4] 107) := (((Below.refl (w.heap.size + 1) (w.alloc (.cells #[.int .i64 x, .slice a1 n1 c1, .slice a2 n2 c2, .slice a3 n3 c3, .slice a4 n4 c4] 107))).alloc (by simp) (.cells #[.int .i64 x, .slice b1 n1 d1, .slice b2 n2 d2, .slice b3 n3 d3, .slice b4 n4 d4] 107)).block _ (Nat.lt_succ_self _)).trans hbx
  obtain ⟨x0, x1, x2, x3, x4⟩ := cells5' hbx
  obtain ⟨y0, y1, y2, y3, y4⟩ := cells5' hby
  have hv1 := hcv1 _ hb0
  have hv2 := hcv2 _ hb0
  have HB0 := Lib.hid hb0
  have HBX := Lib.hid (fun (W : World) (hb : Below (w.heap.size + 2) ((w.alloc (.cells #[.int .i64 x, .slice a1 n1 c1, .slice a2 n2 c2, .slice a3 n3 c3, .slice a4 n4 c4] 107)).alloc (.cells #[.int .i64 x, .slice b1 n1 d1, .slice b2 n2 d2, .slice b3 n3 d3, .slice b4 n4 d4] 107)) W) => cells5' ((hb.block w.heap.size (by omega)).trans hbx))
  have HBY := Lib.hid (fun (W : World) (hb : Below (w.heap.size + 2) ((w.alloc (.cells #[.int .i64 x, .slice a1 n1 c1, .slice a2 n2 c2, .slice a3 n3 c3, .slice a4 n4 c4] 107)).alloc (.cells #[.int .i64 x, .slice b1 n1 d1, .slice b2 n2 d2, .slice b3 n3 d3, .slice b4 n4 d4] 107)) W) => cells5' ((hb.block (w.heap.size + 1) (by omega)).trans hby))
  have HSZ : Hid (w.heap.size + 2 ≤ ((w.alloc (.cells #[.int .i64 x, .slice a1 n1 c1, .slice a2 n2 c2, .slice a3 n3 c3, .slice a4 n4 c4] 107)).alloc (.cells #[.int .i64 x, .slice b1 n1 d1, .slice b2 n2 d2, .slice b3 n3 d3, .slice b4 n4 d4] 107)).heap.size) := Lib.hid (by simp)
  clear hcv1 hcv2 hb0 hbx hby
  go_enter Tryz.func69, Tryz.ntmps69
  go_wp2_with fail
  obtain ⟨W0, hW0⟩ : ∃ W0, (w.alloc (.cells #[.int .i64 x, .slice a1 n1 c1, .slice a2 n2 c2, .slice a3 n3 c3, .slice a4 n4 c4] 107)).alloc (.cells #[.int .i64 x, .slice b1 n1 d1, .slice b2 n2 d2, .slice b3 n3 d3, .slice b4 n4 d4] 107) = W0 := ⟨_, rfl⟩
  rw [hW0] at HBX HBY HB0 HSZ ⊢
  clear hW0 x0 x1 x2 x3 x4 y0 y1 y2 y3 y4 hv1 hv2
  go_loopw [5] (fun i wr => ∃ k : Nat, i = .int .i64 (k : Int) ∧ k ≤ n1 ∧ Hid (Below (w.heap.size + 2) W0 wr)) (fun i _ => n1 - (intOf i).toNat)
  case atStart => exact ⟨0, rfl, Nat.zero_le _, Lib.hid (Below.refl _ _)⟩
  case round =>
    obtain ⟨k, rfl, hk0, HB⟩ := hrel
    have hBw : Below w.heap.size w wr := HB0.out.trans (HB.out.mono (by omega))
    have hx1 := (HBX.out _ HB.out).2.1
    have hy1 := (HBY.out _ HB.out).2.1
    by_cases hlt : k < n1
    · have hkd : k < d.names.length := by rw [E1.out]; exact hlt
      have hkv : k < vs.length := by rw [HVL.out]; exact hkd
      have hku : k < us.length := by rw [HUL.out]; exact hkd
      obtain ⟨g, off, rfl, hg, hc⟩ := HCA.out w (Below.refl _ _) k hkv
      obtain ⟨g2, off2, rfl, hg2, hc2⟩ := HCB.out w (Below.refl _ _) k hku
      have hna := HNA.out w (Below.refl _ _) k hkv hkd
      have hnb := HNB.out w (Below.refl _ _) k hku hkd
      have hnk := HNK.out _ (List.getElem_mem hkd)
      obtain ⟨⟨pa, pc, ep, _⟩, _⟩ := id hna
      obtain ⟨⟨pb, pd, eq, _⟩, _⟩ := id hnb
      rw [ep] at hc hna
      rw [eq] at hc2 hnb
      generalize d.names[k] = nm at *
      obtain ⟨pn, hpn⟩ : ∃ n, nm.length = n := ⟨_, rfl⟩
      rw [hpn] at hc hna hc2 hnb
      have hlti : (k : Int) < (n1 : Int) := by omega
      have hk00 : (0 : Int) ≤ (k : Int) := by omega
      have KD : ∀ W : World, Below (w.heap.size + 2) W0 W → (W.cell? ⟨w.heap.size, 1, none⟩ = some (.slice (some ⟨g, off, none⟩) n1 c1) ∧ W.cell? ⟨w.heap.size + 1, 1, none⟩ = some (.slice (some ⟨g2, off2, none⟩) n1 d1) ∧ W.cell? ⟨g, off + k, none⟩ = some (.slice pa pn pc) ∧ W.cell? ⟨g2, off2 + k, none⟩ = some (.slice pb pn pd) ∧ Below (w.heap.size + 2) W0 W) := fun W hb =>
        ⟨(HBX.out W hb).2.1, (HBY.out W hb).2.1, ((HB0.out.trans (hb.mono (by omega))).cell (p := ⟨g, off + k, none⟩) hg).trans hc, ((HB0.out.trans (hb.mono (by omega))).cell (p := ⟨g2, off2 + k, none⟩) hg2).trans hc2, hb⟩
      have KS := Lib.hid (fun (W W' : World) (h : (W.cell? ⟨w.heap.size, 1, none⟩ = some (.slice (some ⟨g, off, none⟩) n1 c1) ∧ W.cell? ⟨w.heap.size + 1, 1, none⟩ = some (.slice (some ⟨g2, off2, none⟩) n1 d1) ∧ W.cell? ⟨g, off + k, none⟩ = some (.slice pa pn pc) ∧ W.cell? ⟨g2, off2 + k, none⟩ = some (.slice pb pn pd) ∧ Below (w.heap.size + 2) W0 W)) (hb : Below W.heap.size W W') => KD W' (h.2.2.2.2.trans (hb.mono (by have := h.2.2.2.2.size; have := HSZ.out; omega))))
      have KR := Lib.hid (fun (W : World) (h : (W.cell? ⟨w.heap.size, 1, none⟩ = some (.slice (some ⟨g, off, none⟩) n1 c1) ∧ W.cell? ⟨w.heap.size + 1, 1, none⟩ = some (.slice (some ⟨g2, off2, none⟩) n1 d1) ∧ W.cell? ⟨g, off + k, none⟩ = some (.slice pa pn pc) ∧ W.cell? ⟨g2, off2 + k, none⟩ = some (.slice pb pn pd) ∧ Below (w.heap.size + 2) W0 W)) => KD W.drew (below_drew1 h.2.2.2.2))
      have HIs := Lib.hid (fun (W : World) (h : (W.cell? ⟨w.heap.size, 1, none⟩ = some (.slice (some ⟨g, off, none⟩) n1 c1) ∧ W.cell? ⟨w.heap.size + 1, 1, none⟩ = some (.slice (some ⟨g2, off2, none⟩) n1 d1) ∧ W.cell? ⟨g, off + k, none⟩ = some (.slice pa pn pc) ∧ W.cell? ⟨g2, off2 + k, none⟩ = some (.slice pb pn pd) ∧ Below (w.heap.size + 2) W0 W)) => kn_Is _ _ nm nm true (by simp) W (hna.below (HB0.out.trans (h.2.2.2.2.mono (by omega)))) (hnb.below (HB0.out.trans (h.2.2.2.2.mono (by omega)))) hnk)
      have hS := KD wr HB.out
      clear KD hc hc2 hna hnb ep eq hpn
      go_wp2_with fail
      clear hx1 hy1
      go_region_held3 (fun W => (W.cell? ⟨w.heap.size, 1, none⟩ = some (.slice (some ⟨g, off, none⟩) n1 c1) ∧ W.cell? ⟨w.heap.size + 1, 1, none⟩ = some (.slice (some ⟨g2, off2, none⟩) n1 d1) ∧ W.cell? ⟨g, off + k, none⟩ = some (.slice pa pn pc) ∧ W.cell? ⟨g2, off2 + k, none⟩ = some (.slice pb pn pd) ∧ Below (w.heap.size + 2) W0 W)) (first | assumption | exact KR.out _ (by assumption)) (first
        | ((with_reducible refine (HIs.out _ (by assumption)).mono ?_); rintro e w2 ⟨rfl, hb2⟩; have hS2 := KS.out _ _ (by assumption) hb2))
      all_goals
        rename_i hSe
        have HB3 := Lib.hid hSe.2.2.2.2
        clear hSe
        go_wp2_with fail
        go_roundw
        case rel => exact ⟨k + 1, by go_num, by omega, HB3⟩
        case measure => simp [intOf]; omega
    · obtain rfl : k = n1 := by omega
      obtain ⟨WS, hWS⟩ : ∃ W, wr = W := ⟨_, rfl⟩
      rw [hWS] at HB hBw hx1 hy1 ⊢
      clear hWS wr
      go_wp2_with fail
      go_loopw [6] (fun i wr => ∃ j : Nat, i = .int .i64 (j : Int) ∧ j ≤ n2 ∧ Hid (Below (w.heap.size + 2) W0 wr)) (fun i _ => n2 - (intOf i).toNat)
      case atStart => exact ⟨0, rfl, Nat.zero_le _, HB⟩
      case round =>
        clear hx1 hy1 hBw HB
        obtain ⟨j, rfl, hj0, HB⟩ := hrel
        have hBw : Below w.heap.size w wr := HB0.out.trans (HB.out.mono (by omega))
        obtain ⟨-, -, hx2, hx3, -⟩ := HBX.out _ HB.out
        obtain ⟨-, -, hy2, hy3, -⟩ := HBY.out _ HB.out
        by_cases hlt2 : j < n2
        · have hjd : j < d.nums.length := by rw [E2.out]; exact hlt2
          obtain ⟨g, off, rfl, hg, hc⟩ := HUA.out wr hBw j (by rw [List.length_map]; exact hjd)
          obtain ⟨g2, off2, rfl, hg2, hc2⟩ := HUB.out wr hBw j (by rw [List.length_map]; exact hjd)
          rw [List.getElem_map] at hc hc2
          unfold u32V at hc hc2
          have hm := HUK.out _ (List.getElem_mem hjd)
          generalize d.nums[j] = m at *
          have hlti : (j : Int) < (n2 : Int) := by omega
          have hk00 : (0 : Int) ≤ (j : Int) := by omega
          have HBr := Lib.hid (show Below (w.heap.size + 2) W0 wr.drew from below_drew1 HB.out)
          go_wp2_with fail
          go_region
          all_goals
            go_wp2_with fail
            go_roundw
            case rel => exact ⟨j + 1, by go_num, by omega, HBr⟩
            case measure => simp [intOf]; omega
        · obtain rfl : j = n2 := by omega
          go_wp2_with (go_at_call 20; refine (HTX.out _ hBw).mono ?_; rintro e w2 ⟨rfl, hb2⟩)
          go_ret
          exact ⟨rfl, hBw.trans (hb2.mono hBw.size)⟩
end Go.Proofs.YtckammgnmgkieaaGreat

/-
  law5.Is of a row and itself. (Written by wip/tools/genis5.py.)
-/
namespace Go.Proofs.YtckammgnmgkieaaGreat
open Go.RowKit Go.Shelf
set_option maxRecDepth 20000
set_option linter.unusedVariables false
set_option linter.unusedSimpArgs false

set_option maxRecDepth 100000 in
set_option maxHeartbeats 8000000 in
theorem law5_Is (v u : Value) (css ess : List (List Value)) (l : List Rc) (w : World) (hA : SlK w v css) (hR : Rcs w css l) (hU : SlK w u ess) (hS : Rcs w ess l) (hOK : ∀ r ∈ l, RcOK r) (hl : css.length ≤ 1048576) (hl2 : ess.length ≤ 1048576) :
    Calls Tryz.prog 30 #[v, u] w fun e w' => e = .returned (.bool true) ∧ Below w.heap.size w w' := by
  obtain ⟨a, c, rfl, hc1, hc2, hx⟩ := id hA
  obtain ⟨b, d, rfl, hd1, hd2, hy⟩ := id hU
  obtain ⟨n, hn⟩ : ∃ n, css.length = n := ⟨_, rfl⟩
  obtain ⟨n2, hn2⟩ : ∃ n, ess.length = n := ⟨_, rfl⟩
  have HSA := Lib.hid hA; have HSU := Lib.hid hU; have HR := Lib.hid hR; have HS := Lib.hid hS; have HOK := Lib.hid hOK
  rw [hn] at HSA hc1 hl ⊢
  rw [hn2] at HSU hd1 hl2 ⊢
  have HN := Lib.hid hn; have HN2 := Lib.hid hn2
  have HLA := Lib.hid (show l.length = n by rw [← hn]; exact hR.1.symm)
  have HLB := Lib.hid (show l.length = n2 by rw [← hn2]; exact hS.1.symm)
  clear hA hU hR hS hOK hc2 hx hd2 hy hn hn2
  have hnn : n = n2 := by have := HLA.out; have := HLB.out; omega
  · subst hnn
    have HB0 : Hid (Below w.heap.size w w) := Lib.hid (Below.refl _ _)
    go_enter Tryz.func30, Tryz.ntmps30
    go_wp2
    go_loopw [5] (fun vi wr => ∃ (k : Nat), vi = .int .i64 k ∧ k ≤ n ∧ Hid (Below w.heap.size w wr)) (fun vi _ => n - (intOf vi).toNat)
    case atStart => exact ⟨0, rfl, Nat.zero_le _, HB0⟩
    case round =>
      obtain ⟨k, rfl, hk, HB⟩ := hrel
      by_cases hlt : k < n
      · have hltz : (k : Int) < (n : Int) := by omega
        have hk1 : k < css.length := by have := HN.out; omega
        have hk2 : k < ess.length := by have := HN2.out; omega
        have hk3 : k < l.length := by have := HLA.out; omega
        obtain ⟨ga, oa, rfl, hga, hea⟩ := HSA.out.elem HR.out.ck (by omega)
        obtain ⟨gb, ob, rfl, hgb, heb⟩ := HSU.out.elem HS.out.ck (by omega)
        have h0 := HR.out.2 k hk1 hk3
        have h1 := HS.out.2 k hk2 hk3
        have hok := HOK.out _ (List.getElem_mem hk3)
        obtain ⟨ra, hra⟩ : ∃ r, l[k]'hk3 = r := ⟨_, rfl⟩
        rw [hra] at h0 hok h1
        clear hra
        obtain ⟨⟨p0, q0, r0⟩, ⟨p3, q3, r3⟩, ⟨p4, q4, r4⟩, ⟨p5, q5, r5⟩, ⟨p6, q6, r6⟩, e0⟩ := h0.shape
        obtain ⟨⟨p0', q0', r0'⟩, ⟨p3', q3', r3'⟩, ⟨p4', q4', r4'⟩, ⟨p5', q5', r5'⟩, ⟨p6', q6', r6'⟩, e1⟩ := h1.shape
        simp only at e0 e1
        have f0 := fun p : WIn (fun W => Below w.heap.size w W) => hea k hk1 _ _ _ _ _ _ _ e0 p.w p.ok
        have f1 := fun p : WIn (fun W => Below w.heap.size w W) => heb k hk2 _ _ _ _ _ _ _ e1 p.w p.ok
        have g0 := fun p => (f0 p).1; have g1 := fun p => (f0 p).2.1; have g2 := fun p => (f0 p).2.2.1; have g3 := fun p => (f0 p).2.2.2.1; have g4 := fun p => (f0 p).2.2.2.2.1; have g5 := fun p => (f0 p).2.2.2.2.2.1; have g6 := fun p => (f0 p).2.2.2.2.2.2
        have j0 := fun p => (f1 p).1; have j1 := fun p => (f1 p).2.1; have j2 := fun p => (f1 p).2.2.1; have j3 := fun p => (f1 p).2.2.2.1; have j4 := fun p => (f1 p).2.2.2.2.1; have j5 := fun p => (f1 p).2.2.2.2.2.1; have j6 := fun p => (f1 p).2.2.2.2.2.2
        rw [e0] at h0
        rw [e1] at h1
        obtain ⟨_, _, _, _, _, e5, n1, n2⟩ := h0
        simp only [List.cons.injEq, and_true, true_and] at e5
        obtain ⟨rfl, rfl, rfl, rfl, rfl⟩ := e5
        obtain ⟨_, _, _, _, _, e6, m1, m2⟩ := h1
        simp only [List.cons.injEq, and_true, true_and] at e6
        obtain ⟨rfl, rfl, rfl, rfl, rfl⟩ := e6
        have hcn := fun p : WIn (fun W => Below w.heap.size w W) => Calls.cls (C := fun W => Below w.heap.size w W) ((kn_Is _ _ ra.owner ra.owner true (by simp) p.w (n1.below p.ok) (m1.below p.ok) hok.1).mono fun _ _ ⟨hq, hb⟩ => ⟨hq, p.ok.trans (hb.mono p.ok.size)⟩)
        have hcd := fun p : WIn (fun W => Below w.heap.size w W) => Calls.cls (C := fun W => Below w.heap.size w W) ((law4_Is _ _ ra.data p.w (n2.below p.ok) (m2.below p.ok) hok.2.2).mono fun _ _ ⟨hq, hb⟩ => ⟨hq, p.ok.trans (hb.mono p.ok.size)⟩)
        obtain ⟨ta, hta⟩ : ∃ t, ra.ttl = t := ⟨_, rfl⟩
        rw [hta] at g1 j1
        have hne : Nonempty (WIn (fun W => Below w.heap.size w W)) := ⟨⟨_, HB.out⟩⟩
        have hbd : Below w.heap.size w wr.drew := HB.out.trans ⟨rfl, rfl, rfl, Nat.le_refl _, fun _ _ => rfl⟩
        clear hok n1 n2 m1 m2 e0 e1 hea heb hk1 hk2 hk3 f0 f1 hta
        go_wp2_with fail
        refine wp_region_cls (fun W => Below w.heap.size w W) follows_mixed (by kernel_rfl) hbd ?_
        repeat (go_big_quiet_step (first | exact hcn _ | exact hcd _))
        refine wpQuiet_nil ?_
        rintro _ ⟨p, rfl⟩
        have HP := Lib.hid p.ok
        clear g0 g1 g2 g3 g4 g5 g6 j0 j1 j2 j3 j4 j5 j6 hcn hcd
        go_wp2
        go_roundw
        case measure => simp [intOf]; omega
        case rel => exact ⟨k + 1, by go_num, by omega, HP⟩
      · obtain rfl : k = n := by omega
        go_wp2
        go_ret
        exact ⟨rfl, HB.out⟩
end Go.Proofs.YtckammgnmgkieaaGreat

