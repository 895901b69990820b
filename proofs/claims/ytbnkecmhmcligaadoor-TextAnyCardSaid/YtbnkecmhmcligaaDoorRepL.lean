/-
  law25.lines: the document's lines of a report. (Written by wip/tools/genrepl.py.)
-/
import Derived.Test.YtbnkecmhmcligaaDoorRepL0
namespace Go.Proofs.YtbnkecmhmcligaaDoor
open Go.RowKit Go.Shelf
set_option maxRecDepth 20000
set_option linter.unusedVariables false
set_option linter.unusedSimpArgs false
section
set_option maxRecDepth 100000 in
set_option maxHeartbeats 400000000 in
theorem law25_lines (ve vf vd vs : Value) (r : Rp) (w : World) (hA : RpAt w ve vf vd vs r) (hF : RpF r) (er0 : Int) (her : r.err = er0) :
    Calls Tryd.prog 8 #[.agg #[ve, vf, vd, vs, .int .i64 er0]] w fun e w' => ∃ v, e = .returned v ∧ StrsAt w' v (linesM r) ∧ Below w.heap.size w w' := by
  obtain ⟨ae, ce, rfl, -⟩ := hA.e.shape
  obtain ⟨af, cf, rfl, -⟩ := hA.f.shape
  obtain ⟨ad, cd, rfl, -⟩ := hA.d.shape
  obtain ⟨asx, cs0, rfl, -⟩ := hA.s.shape
  have HF := Lib.hid hF
  have HFEW := Lib.hid hF.ok.few
  obtain ⟨nE, hnE⟩ : ∃ n, r.errs.length = n := ⟨_, rfl⟩
  obtain ⟨nF, hnF⟩ : ∃ n, r.flaws.length = n := ⟨_, rfl⟩
  obtain ⟨nD, hnD⟩ : ∃ n, r.edges.length = n := ⟨_, rfl⟩
  obtain ⟨nS, hnS⟩ : ∃ n, r.seen.length = n := ⟨_, rfl⟩
  rw [hnE, hnF, hnD, hnS] at hA ⊢
  have HA := Lib.hid hA; have HNE0 := Lib.hid hnE; have HNE' := HNE0; have HNF := Lib.hid hnF; have HND := Lib.hid hnD; have HNS := Lib.hid hnS
  have HNE := HNE0
  clear HNE0 HNE' hA hF hnE hnF hnD hnS
  obtain ⟨W0, hW0⟩ : ∃ W0, w.alloc (.cells #[.slice ae nE ce, .slice af nF cf, .slice ad nD cd, .slice asx nS cs0, .int .i64 er0] 30) = W0 := ⟨_, rfl⟩
  obtain ⟨RB, hRB⟩ : ∃ n, w.heap.size = n := ⟨_, rfl⟩
  have HB0 : Hid (Below w.heap.size w W0) := Lib.hid (by rw [← hW0]; exact (Below.refl _ w).alloc (Nat.le_refl _) _)
  have HRB : Hid (W0.heap[RB]? = some (.cells #[.slice ae nE ce, .slice af nF cf, .slice ad nD cd, .slice asx nS cs0, .int .i64 er0] 30)) := Lib.hid (by rw [← hW0, ← hRB]; exact knew _ _)
  have bE : nE ≤ 1000 := by have := HFEW.out; have := HNE.out; omega
  have bF : nF ≤ 1000 := by have := HFEW.out; have := HNF.out; omega
  have bD : nD ≤ 1000 := by have := HFEW.out; have := HND.out; omega
  have bS : nS ≤ 1000 := by have := HFEW.out; have := HNS.out; omega
  go_enter Tryd.func8, Tryd.ntmps8
  go_wp2_with fail
  clear hW0
  go_loopw [3, 4] (fun u i wr => ∃ (k : Nat) (done : Nm), i = .int .i64 k ∧ k ≤ nE ∧ Hid (OwnG 9 strV wr W0.heap.size u done ∧ done = (r.errs.take k).map eRow) ∧ Hid (Below W0.heap.size W0 wr)) (fun _ i _ => nE - (intOf i).toNat)
  case atStart => exact ⟨0, [], rfl, Nat.zero_le _, Lib.hid ⟨OwnG.nil _ _, by simp⟩, Lib.hid (Below.refl _ _)⟩
  case round =>
    rename World => wr
    obtain ⟨k, done, rfl, hk, HO, HB⟩ := hrel
    obtain ⟨hown, hdone⟩ := HO.out
    obtain ⟨au, cu, rfl⟩ := hown.shape
    have hB0 : Below W0.heap.size W0 wr := HB.out
    have hBw : Below w.heap.size w wr := HB0.out.trans (hB0.mono HB0.out.size)
    have rb := (hB0.block RB (kblock_lt HRB.out)).trans HRB.out
    have r0 := kcell rb 0 _ rfl
    have hdl : done.length ≤ 5000 := by rw [hdone]; have := HFEW.out; simp only [List.length_append, List.length_map, List.length_take]; omega
    generalize hdn : done.length = dl at *
    by_cases hlt : k < nE
    · have hkl : k < r.errs.length := by rw [HNE.out]; exact hlt
      have hltz : (k : Int) < (nE : Int) := by omega
      have hkz : (0 : Int) ≤ (k : Int) := by omega
      obtain ⟨g, off, cs, rfl, hg, hat, hck, hcl⟩ := (HA.out.e).get FtAt.len hkl
      have hok := HF.out.ok.errs _ (List.getElem_mem hkl)
      have hfw := HF.out.errs _ (List.getElem_mem hkl)
      have HD2 : Hid (done ++ [eRow r.errs[k]] = (r.errs.take (k + 1)).map eRow) := Lib.hid (by rw [hdone, List.take_succ_eq_append_getElem hkl, List.map_append]; simp)
      generalize r.errs[k] = f at *
      have HBASE := Lib.hid (OwnG.base_le hown); have HLTB := Lib.hid (OwnG.ltL hown); have HBZ := Lib.hid hB0.size; have HDN := Lib.hid (show done.length ≤ 5000 by omega)
      obtain ⟨b, rfl, hblt, y0, y1, y2⟩ := id hat
      have c0 := (hBw.cell (p := ⟨g, off + k * 1 + 0, none⟩) hg).trans (hcl 0 _ rfl)
      simp only [Nat.add_zero, Nat.mul_one] at c0
      replace y0 := (hBw.cell (p := ⟨b, 0, none⟩) hblt).trans y0
      replace y1 := (hBw.cell (p := ⟨b, 1, none⟩) hblt).trans y1
      replace y2 := (hBw.cell (p := ⟨b, 2, none⟩) hblt).trans y2
      have hRf := fun W => rep_Fault f W hok hfw.1 hfw.2
      have hR : eRow f = [101, 114, 114, 111, 114, 32] ++ faultW f := rfl
      have hL := eRow_len hok
      obtain ⟨cx0, hcx⟩ : ∃ s, strV f.path = .string s := ⟨_, rfl⟩
      rw [hcx] at y0 hRf
      generalize eRow f = res at *
      generalize faultW f = x1 at *
      generalize f.line = ln at *
      generalize f.err = er at *
      have hL2 : res.length ≤ 1000000000000 := by omega
      have A0 := add_rep [101, 114, 114, 111, 114, 32] x1 res hR hL2
      generalize (⟨x1.toArray⟩ : ByteArray) = cx1 at *
      have B0 : ∀ W, (Op.stringOp .add (⟨#[101, 114, 114, 111, 114, 32]⟩ : ByteArray) cx1).run Tryd.prog W = .ok (.string ⟨res.toArray⟩) W := A0
      clear A0
      have HNEX : Hid (∀ c, (Value.slice au dl cu).ownBlock = some c → W0.heap.size ≤ c ∧ c ≠ b) := Lib.hid (fun c e => ⟨HBASE.out c e, by have := HBASE.out c e; have := HB0.out.size; omega⟩)
      have KS := Lib.hid (fun (W W' : World) (h : W.cell? ⟨b, 0, none⟩ = some (.string cx0) ∧ W.cell? ⟨b, 1, none⟩ = some (.int .i64 ln) ∧ W.cell? ⟨b, 2, none⟩ = some (.int .i64 er) ∧ Below W0.heap.size W0 W) (hb : Below W.heap.size W W') => (⟨cell_below hb h.1, cell_below hb h.2.1, cell_below hb h.2.2.1, h.2.2.2.trans (hb.mono h.2.2.2.size)⟩ : W'.cell? ⟨b, 0, none⟩ = some (.string cx0) ∧ W'.cell? ⟨b, 1, none⟩ = some (.int .i64 ln) ∧ W'.cell? ⟨b, 2, none⟩ = some (.int .i64 er) ∧ Below W0.heap.size W0 W'))
      have KD := Lib.hid (fun (W : World) (h : W.cell? ⟨b, 0, none⟩ = some (.string cx0) ∧ W.cell? ⟨b, 1, none⟩ = some (.int .i64 ln) ∧ W.cell? ⟨b, 2, none⟩ = some (.int .i64 er) ∧ Below W0.heap.size W0 W) => KS.out W W.drew h (below_drewL W))
      have KA := Lib.hid (fun (W : World) (o : Obj) (h : W.cell? ⟨b, 0, none⟩ = some (.string cx0) ∧ W.cell? ⟨b, 1, none⟩ = some (.int .i64 ln) ∧ W.cell? ⟨b, 2, none⟩ = some (.int .i64 er) ∧ Below W0.heap.size W0 W) => KS.out W (W.alloc o) h ((Below.refl _ W).alloc (Nat.le_refl _) o))
      have KG := Lib.hid (fun (W W' : World) (h : W.cell? ⟨b, 0, none⟩ = some (.string cx0) ∧ W.cell? ⟨b, 1, none⟩ = some (.int .i64 ln) ∧ W.cell? ⟨b, 2, none⟩ = some (.int .i64 er) ∧ Below W0.heap.size W0 W) (hg : W.grownBy W' (Value.slice au dl cu).ownBlock) => (⟨cell_grown hg h.1 (fun c e => (HNEX.out c e).2), cell_grown hg h.2.1 (fun c e => (HNEX.out c e).2), cell_grown hg h.2.2.1 (fun c e => (HNEX.out c e).2), h.2.2.2.grown hg h.2.2.2.size (fun c e => (HNEX.out c e).1)⟩ : W'.cell? ⟨b, 0, none⟩ = some (.string cx0) ∧ W'.cell? ⟨b, 1, none⟩ = some (.int .i64 ln) ∧ W'.cell? ⟨b, 2, none⟩ = some (.int .i64 er) ∧ Below W0.heap.size W0 W'))
      have HC := Lib.hid (fun (W : World) (h : W.cell? ⟨b, 0, none⟩ = some (.string cx0) ∧ W.cell? ⟨b, 1, none⟩ = some (.int .i64 ln) ∧ W.cell? ⟨b, 2, none⟩ = some (.int .i64 er) ∧ Below W0.heap.size W0 W) => hRf W)
      have hS0 : wr.cell? ⟨b, 0, none⟩ = some (.string cx0) ∧ wr.cell? ⟨b, 1, none⟩ = some (.int .i64 ln) ∧ wr.cell? ⟨b, 2, none⟩ = some (.int .i64 er) ∧ Below W0.heap.size W0 wr := ⟨y0, y1, y2, hB0⟩
      have hown9 := hown.drew
      clear hRf hR hL hL2 hcx hat hck hcl hg hok hfw hdone hown y0 y1 y2 hblt hkl hBw rb hdn hdl hB0 HO HB
      go_wp2_with fail
      go_region_held3 (fun W => W.cell? ⟨b, 0, none⟩ = some (.string cx0) ∧ W.cell? ⟨b, 1, none⟩ = some (.int .i64 ln) ∧ W.cell? ⟨b, 2, none⟩ = some (.int .i64 er) ∧ Below W0.heap.size W0 W)
        (first | with_reducible assumption | (with_reducible exact KD.out _ (by with_reducible assumption)) | (with_reducible exact KA.out _ _ (by with_reducible assumption)))
        (first | ((with_reducible refine (HC.out _ (by with_reducible assumption)).mono ?_); rintro e w2 ⟨rfl, hb2⟩; have hS2 := KS.out _ _ (by with_reducible assumption) hb2; have ho2 := OwnG.below hown9 hb2) | ((have hq := ho2; clear hq; refine step_append_l w2 (by rfl) _ _ (by rfl) W0.heap.size au dl cu done res (by rfl) ho2 (by rfl) (hS2.2.2.2.size) HDN.out ?_); intro g9 n9 c9 w3 ho3 hg3 hq3; have hS3 := KG.out _ _ (by assumption) hg3))
      all_goals
        rename_i hSe
        have HB3 := Lib.hid hSe.2.2.2
        have HO3 := Lib.hid ho3
        clear hSe hS3 hS2 ho3 ho2 hg3 hq3 hb2
        go_wp2_with fail
        go_roundw
        case rel => exact ⟨k + 1, done ++ [res], by go_num, by omega, Lib.hid ⟨HO3.out, HD2.out⟩, HB3⟩
        case measure => simp [intOf]; omega
    · obtain rfl : nE = k := by omega
      have hfull : done = r.errs.map eRow := by rw [hdone, List.take_of_length_le (by rw [HNE.out]; exact Nat.le_refl _)]
      have HDN := Lib.hid (show done.length ≤ 5000 by omega)
      have HOA := Lib.hid hown; have HDA := Lib.hid hfull; have HLB := Lib.hid (OwnG.ltL hown)
      clear hown hdone hfull hlt hk HO hdl
      have HBP := Lib.hid hB0
      clear hB0 HB hBw rb hdn
      obtain ⟨T, hTT⟩ : ∃ n, wr.heap.size = n := ⟨_, rfl⟩
      obtain ⟨wt, hwt⟩ : ∃ wt, wr.alloc (.cells #[.string ⟨#[]⟩, .string ⟨#[110, 111, 115, 111, 97]⟩, .string ⟨#[109, 97, 110, 121, 115, 111, 97]⟩, .string ⟨#[110, 111, 110, 115]⟩, .string ⟨#[115, 116, 114, 97, 110, 103, 101]⟩, .string ⟨#[109, 105, 120, 101, 100]⟩, .string ⟨#[109, 97, 110, 121, 110, 97, 109, 101]⟩, .string ⟨#[104, 105, 100, 100, 101, 110]⟩, .string ⟨#[99, 111, 118, 101, 114, 101, 100]⟩, .string ⟨#[119, 105, 108, 100, 110, 115]⟩] 9) = wt := ⟨_, rfl⟩
      have hbt : Below wr.heap.size wr wt := by rw [← hwt]; exact (Below.refl _ wr).alloc (Nat.le_refl _) _
      have hbt2 : wt.heap[T]? = some (.cells (wF.map strV).toArray 9) := by rw [← hwt, ← hTT]; exact knew _ _
      have HLT : Hid (LinT W0 T (wF.map strV).toArray wt ∧ ∀ b, (Value.slice au dl cu).ownBlock = some b → b ≠ T) := Lib.hid ⟨⟨hbt2, HBP.out.trans (hbt.mono HBP.out.size)⟩, fun b e => by have := HLB.out b e; omega⟩
      have HOWN := Lib.hid (OwnG.below HOA.out hbt)
      have HDONE := HDA
      clear hbt hbt2 HOA HDA HLB HBP
      go_wp2_with fail
      clear hwt hTT
      go_loopw [3, 7] (fun u i wr => ∃ (k : Nat) (done : Nm), i = .int .i64 k ∧ k ≤ nF ∧ Hid (OwnG 9 strV wr W0.heap.size u done ∧ done = (r.errs.map eRow) ++ (r.flaws.take k).map fRow) ∧ Hid (LinT W0 T (wF.map strV).toArray wr ∧ ∀ b, u.ownBlock = some b → b ≠ T)) (fun _ i _ => nF - (intOf i).toNat)
      case atStart => exact ⟨0, done, rfl, Nat.zero_le _, Lib.hid ⟨HOWN.out, by rw [HDONE.out]; simp⟩, HLT.out⟩
      case round =>
        clear HOWN HDONE HLT
        rename World => wr
        obtain ⟨k, done, rfl, hk, HO, HB⟩ := hrel
        obtain ⟨hown, hdone⟩ := HO.out
        obtain ⟨au, cu, rfl⟩ := hown.shape
        have hB0 : Below W0.heap.size W0 wr := HB.out.1.below
        have hBw : Below w.heap.size w wr := HB0.out.trans (hB0.mono HB0.out.size)
        have rb := (hB0.block RB (kblock_lt HRB.out)).trans HRB.out
        have r1 := kcell rb 1 _ rfl
        have hdl : done.length ≤ 5000 := by rw [hdone]; have := HFEW.out; simp only [List.length_append, List.length_map, List.length_take]; omega
        generalize hdn : done.length = dl at *
        by_cases hlt : k < nF
        · have hkl : k < r.flaws.length := by rw [HNF.out]; exact hlt
          have hltz : (k : Int) < (nF : Int) := by omega
          have hkz : (0 : Int) ≤ (k : Int) := by omega
          obtain ⟨g, off, cs, rfl, hg, hat, hck, hcl⟩ := (HA.out.f).get FwAt.len hkl
          have hok := HF.out.ok.flaws _ (List.getElem_mem hkl)
          have hfw := HF.out.flaws _ (List.getElem_mem hkl)
          have HD2 : Hid (done ++ [fRow r.flaws[k]] = (r.errs.map eRow) ++ (r.flaws.take (k + 1)).map fRow) := Lib.hid (by rw [hdone, List.take_succ_eq_append_getElem hkl, List.map_append]; simp)
          generalize r.flaws[k] = f at *
          have HBASE := Lib.hid (OwnG.base_le hown); have HLTB := Lib.hid (OwnG.ltL hown); have HBZ := Lib.hid hB0.size; have HDN := Lib.hid (show done.length ≤ 5000 by omega)
          obtain ⟨vo, rfl, a1⟩ := id hat
          obtain ⟨⟨q1, d1, rfl, -⟩, -⟩ := id a1
          have hHN := fun (W : World) (hb : Below w.heap.size w W) => ref_NameText (.slice q1 f.owner.length d1) f.owner W (a1.below hb).1 hok.owner.1
          have hHT := fun (W : World) (hb : Below w.heap.size w W) => ref_TyText f.ty hfw W
          have hR : fRow f = [102, 108, 97, 119, 32] ++ wF.getD f.kind.toNat [] ++ [32] ++ textN f.owner ++ [32] ++ typeTextM f.ty := rfl
          have hL := fRow_len hok
          have hkd := hok.kind
          have hwc := word_cell (l := wF) HB.out.1.t f.kind hok.kind.1 hok.kind.2
          have c0 := (hBw.cell (p := ⟨g, off + k * 3 + 0, none⟩) hg).trans (hcl 0 _ rfl)
          have c1 := (hBw.cell (p := ⟨g, off + k * 3 + 1, none⟩) hg).trans (hcl 1 _ rfl)
          have c2 := (hBw.cell (p := ⟨g, off + k * 3 + 2, none⟩) hg).trans (hcl 2 _ rfl)
          simp only [Nat.add_zero, Nat.mul_one] at c0
          generalize fRow f = res at *
          generalize wF.getD f.kind.toNat [] = x1 at *
          generalize textN f.owner = x2 at *
          generalize typeTextM f.ty = x3 at *
          generalize f.kind = kd at *
          generalize f.ty = ty at *
          generalize f.owner.length = n1 at *
          replace hL : res.length ≤ 1000000000000 := by omega
          have hz := hL
          rw [hR] at hz
          simp only [List.length_append] at hz
          have hL0 := hL
          have A0 := add_rep ([102, 108, 97, 119, 32]) x1 ([102, 108, 97, 119, 32] ++ x1) rfl (by simp only [List.length_append]; omega)
          have A1 := add_rep ([102, 108, 97, 119, 32] ++ x1) [32] ([102, 108, 97, 119, 32] ++ x1 ++ [32]) rfl (by simp only [List.length_append]; omega)
          have A2 := add_rep ([102, 108, 97, 119, 32] ++ x1 ++ [32]) x2 ([102, 108, 97, 119, 32] ++ x1 ++ [32] ++ x2) rfl (by simp only [List.length_append]; omega)
          have A3 := add_rep ([102, 108, 97, 119, 32] ++ x1 ++ [32] ++ x2) [32] ([102, 108, 97, 119, 32] ++ x1 ++ [32] ++ x2 ++ [32]) rfl (by simp only [List.length_append]; omega)
          have A4 := add_rep ([102, 108, 97, 119, 32] ++ x1 ++ [32] ++ x2 ++ [32]) x3 res hR hL
          generalize (⟨([102, 108, 97, 119, 32] ++ x1 ++ [32] ++ x2 ++ [32]).toArray⟩ : ByteArray) = b3 at *
          generalize (⟨([102, 108, 97, 119, 32] ++ x1 ++ [32] ++ x2).toArray⟩ : ByteArray) = b2 at *
          generalize (⟨([102, 108, 97, 119, 32] ++ x1 ++ [32]).toArray⟩ : ByteArray) = b1 at *
          generalize (⟨([102, 108, 97, 119, 32] ++ x1).toArray⟩ : ByteArray) = b0 at *
          generalize (⟨x1.toArray⟩ : ByteArray) = cx1 at *
          generalize (⟨x2.toArray⟩ : ByteArray) = cx2 at *
          generalize (⟨x3.toArray⟩ : ByteArray) = cx3 at *
          have B0 : ∀ W, (Op.stringOp .add (⟨#[102, 108, 97, 119, 32]⟩ : ByteArray) cx1).run Tryd.prog W = .ok (.string b0) W := A0
          have B1 : ∀ W, (Op.stringOp .add b0 (⟨#[32]⟩ : ByteArray)).run Tryd.prog W = .ok (.string b1) W := A1
          have B2 : ∀ W, (Op.stringOp .add b1 cx2).run Tryd.prog W = .ok (.string b2) W := A2
          have B3 : ∀ W, (Op.stringOp .add b2 (⟨#[32]⟩ : ByteArray)).run Tryd.prog W = .ok (.string b3) W := A3
          have B4 : ∀ W, (Op.stringOp .add b3 cx3).run Tryd.prog W = .ok (.string ⟨res.toArray⟩) W := A4
          clear A0 A1 A2 A3 A4
          obtain ⟨cw, hcw⟩ : ∃ s, s = cx1 := ⟨_, rfl⟩
          subst hcw
          obtain ⟨X, hX⟩ : ∃ n, wr.heap.size = n := ⟨_, rfl⟩
          obtain ⟨wx, hwx⟩ : ∃ wx, wr.alloc (.cells #[.int .i64 kd, .slice q1 n1 d1, .int .i64 ty] 41) = wx := ⟨_, rfl⟩
          have hbx : Below wr.heap.size wr wx := by rw [← hwx]; exact (Below.refl _ wr).alloc (Nat.le_refl _) _
          have hxb : wx.heap[X]? = some (.cells #[.int .i64 kd, .slice q1 n1 d1, .int .i64 ty] 41) := by rw [← hwx, ← hX]; exact knew _ _
          have HTX := Lib.hid (kblock_lt HB.out.1.t)
          have HNEX : Hid (∀ c, (Value.slice au dl cu).ownBlock = some c → W0.heap.size ≤ c ∧ c ≠ X ∧ c ≠ T) := Lib.hid (fun c e => ⟨HBASE.out c e, by have := HLTB.out c e; omega, HB.out.2 c e⟩)
          have KS := Lib.hid (fun (W W' : World) (h : W.cell? ⟨X, 0, none⟩ = some (.int .i64 kd) ∧ W.cell? ⟨X, 1, none⟩ = some (.slice q1 n1 d1) ∧ W.cell? ⟨X, 2, none⟩ = some (.int .i64 ty) ∧ W.cell? ⟨T, kd.toNat, none⟩ = some (.string cw) ∧ LinT W0 T (wF.map strV).toArray W) (hb : Below W.heap.size W W') => (⟨cell_below hb h.1, cell_below hb h.2.1, cell_below hb h.2.2.1, cell_below hb h.2.2.2.1, h.2.2.2.2.keep hb⟩ : W'.cell? ⟨X, 0, none⟩ = some (.int .i64 kd) ∧ W'.cell? ⟨X, 1, none⟩ = some (.slice q1 n1 d1) ∧ W'.cell? ⟨X, 2, none⟩ = some (.int .i64 ty) ∧ W'.cell? ⟨T, kd.toNat, none⟩ = some (.string cw) ∧ LinT W0 T (wF.map strV).toArray W'))
          have KD := Lib.hid (fun (W : World) (h : W.cell? ⟨X, 0, none⟩ = some (.int .i64 kd) ∧ W.cell? ⟨X, 1, none⟩ = some (.slice q1 n1 d1) ∧ W.cell? ⟨X, 2, none⟩ = some (.int .i64 ty) ∧ W.cell? ⟨T, kd.toNat, none⟩ = some (.string cw) ∧ LinT W0 T (wF.map strV).toArray W) => KS.out W W.drew h (below_drewL W))
          have KA := Lib.hid (fun (W : World) (o : Obj) (h : W.cell? ⟨X, 0, none⟩ = some (.int .i64 kd) ∧ W.cell? ⟨X, 1, none⟩ = some (.slice q1 n1 d1) ∧ W.cell? ⟨X, 2, none⟩ = some (.int .i64 ty) ∧ W.cell? ⟨T, kd.toNat, none⟩ = some (.string cw) ∧ LinT W0 T (wF.map strV).toArray W) => KS.out W (W.alloc o) h ((Below.refl _ W).alloc (Nat.le_refl _) o))
          have KG := Lib.hid (fun (W W' : World) (h : W.cell? ⟨X, 0, none⟩ = some (.int .i64 kd) ∧ W.cell? ⟨X, 1, none⟩ = some (.slice q1 n1 d1) ∧ W.cell? ⟨X, 2, none⟩ = some (.int .i64 ty) ∧ W.cell? ⟨T, kd.toNat, none⟩ = some (.string cw) ∧ LinT W0 T (wF.map strV).toArray W) (hg : W.grownBy W' (Value.slice au dl cu).ownBlock) => (⟨cell_grown hg h.1 (fun c e => (HNEX.out c e).2.1), cell_grown hg h.2.1 (fun c e => (HNEX.out c e).2.1), cell_grown hg h.2.2.1 (fun c e => (HNEX.out c e).2.1), cell_grown hg h.2.2.2.1 (fun c e => (HNEX.out c e).2.2), h.2.2.2.2.grown hg (fun c e => ⟨(HNEX.out c e).1, (HNEX.out c e).2.2⟩)⟩ : W'.cell? ⟨X, 0, none⟩ = some (.int .i64 kd) ∧ W'.cell? ⟨X, 1, none⟩ = some (.slice q1 n1 d1) ∧ W'.cell? ⟨X, 2, none⟩ = some (.int .i64 ty) ∧ W'.cell? ⟨T, kd.toNat, none⟩ = some (.string cw) ∧ LinT W0 T (wF.map strV).toArray W'))
          have HN := Lib.hid (fun (W : World) (h : W.cell? ⟨X, 0, none⟩ = some (.int .i64 kd) ∧ W.cell? ⟨X, 1, none⟩ = some (.slice q1 n1 d1) ∧ W.cell? ⟨X, 2, none⟩ = some (.int .i64 ty) ∧ W.cell? ⟨T, kd.toNat, none⟩ = some (.string cw) ∧ LinT W0 T (wF.map strV).toArray W) => hHN W (HB0.out.trans (h.2.2.2.2.below.mono HB0.out.size)))
          have HT := Lib.hid (fun (W : World) (h : W.cell? ⟨X, 0, none⟩ = some (.int .i64 kd) ∧ W.cell? ⟨X, 1, none⟩ = some (.slice q1 n1 d1) ∧ W.cell? ⟨X, 2, none⟩ = some (.int .i64 ty) ∧ W.cell? ⟨T, kd.toNat, none⟩ = some (.string cw) ∧ LinT W0 T (wF.map strV).toArray W) => hHT W (HB0.out.trans (h.2.2.2.2.below.mono HB0.out.size)))
          have hlx : LinT W0 T (wF.map strV).toArray wx := HB.out.1.keep hbx
          have hS0 : wx.cell? ⟨X, 0, none⟩ = some (.int .i64 kd) ∧ wx.cell? ⟨X, 1, none⟩ = some (.slice q1 n1 d1) ∧ wx.cell? ⟨X, 2, none⟩ = some (.int .i64 ty) ∧ wx.cell? ⟨T, kd.toNat, none⟩ = some (.string cw) ∧ LinT W0 T (wF.map strV).toArray wx := ⟨kcell hxb 0 _ rfl, kcell hxb 1 _ rfl, kcell hxb 2 _ rfl, cell_below hbx hwc, hlx⟩
          have hownx := OwnG.below hown hbx
          clear hHN hHT hR hL hL0 hz hat hck hcl hg hok hdone hown a1 hfw hkl hBw rb hdn hdl hB0 HO hwc hxb hlx hbx
          go_wp2_with fail
          have hown9 := hownx.drew
          clear hownx
          go_region_held3 (fun W => W.cell? ⟨X, 0, none⟩ = some (.int .i64 kd) ∧ W.cell? ⟨X, 1, none⟩ = some (.slice q1 n1 d1) ∧ W.cell? ⟨X, 2, none⟩ = some (.int .i64 ty) ∧ W.cell? ⟨T, kd.toNat, none⟩ = some (.string cw) ∧ LinT W0 T (wF.map strV).toArray W)
            (first | with_reducible assumption | (with_reducible exact KD.out _ (by with_reducible assumption)) | (with_reducible exact KA.out _ _ (by with_reducible assumption)))
            (first | ((with_reducible refine (HN.out _ (by with_reducible assumption)).mono ?_); rintro e w2 ⟨rfl, hb2⟩; have hS2 := KS.out _ _ (by with_reducible assumption) hb2; have ho2 := OwnG.below hown9 hb2) | ((with_reducible refine (HT.out _ (by with_reducible assumption)).mono ?_); rintro e w2 ⟨rfl, hb2⟩; have hS2 := KS.out _ _ (by with_reducible assumption) hb2; have ho2 := OwnG.below ho2 hb2) | ((have hq := ho2; clear hq; refine step_append_l w2 (by rfl) _ _ (by rfl) W0.heap.size au dl cu done res (by rfl) ho2 (by rfl) (hS2.2.2.2.2.below.size) HDN.out ?_); intro g9 n9 c9 w3 ho3 hg3 hq3; have hS3 := KG.out _ _ (by assumption) hg3))
          all_goals
            rename_i hSe
            have HB3 := Lib.hid hSe.2.2.2.2
            have HO3 := Lib.hid ho3
            have HNT := Lib.hid (show ∀ b, (Value.slice (some ⟨g9, 0, none⟩) n9 c9).ownBlock = some b → b ≠ T from fun b e => by
              have e2 : g9 = b := by simpa [Value.ownBlock] using e
              subst e2
              rcases hq3 with q | q
              · exact (HNEX.out _ q).2.2
              · have := HTX.out; have := hS2.2.2.2.2.below.size; have h9 := kblock_lt hS2.2.2.2.2.t; omega)
            clear hSe hS3 hS2 ho3 ho2 hg3 hq3 hb2
            go_wp2_with fail
            go_roundw
            case rel => exact ⟨k + 1, done ++ [res], by go_num, by omega, Lib.hid ⟨HO3.out, HD2.out⟩, Lib.hid ⟨HB3.out, HNT.out⟩⟩
            case measure => simp [intOf]; omega
        · obtain rfl : nF = k := by omega
          have hfull : done = r.errs.map eRow ++ r.flaws.map fRow := by rw [hdone, List.take_of_length_le (by rw [HNF.out]; exact Nat.le_refl _)]
          have HDN := Lib.hid (show done.length ≤ 5000 by omega)
          have HOA := Lib.hid hown; have HDA := Lib.hid hfull; have HLB := Lib.hid (OwnG.ltL hown)
          clear hown hdone hfull hlt hk HO hdl
          have HBP := Lib.hid hB0
          clear hB0 HB hBw rb hdn
          obtain ⟨T, hTT⟩ : ∃ n, wr.heap.size = n := ⟨_, rfl⟩
          obtain ⟨wt, hwt⟩ : ∃ wt, wr.alloc (.cells #[.string ⟨#[]⟩, .string ⟨#[110, 115, 100, 105, 102, 102, 101, 114, 115]⟩, .string ⟨#[103, 108, 117, 101, 100, 105, 102, 102, 101, 114, 115]⟩, .string ⟨#[110, 111, 103, 108, 117, 101]⟩, .string ⟨#[110, 111, 99, 104, 105, 108, 100]⟩] 9) = wt := ⟨_, rfl⟩
          have hbt : Below wr.heap.size wr wt := by rw [← hwt]; exact (Below.refl _ wr).alloc (Nat.le_refl _) _
          have hbt2 : wt.heap[T]? = some (.cells (wE.map strV).toArray 9) := by rw [← hwt, ← hTT]; exact knew _ _
          have HLT : Hid (LinT W0 T (wE.map strV).toArray wt ∧ ∀ b, (Value.slice au dl cu).ownBlock = some b → b ≠ T) := Lib.hid ⟨⟨hbt2, HBP.out.trans (hbt.mono HBP.out.size)⟩, fun b e => by have := HLB.out b e; omega⟩
          have HOWN := Lib.hid (OwnG.below HOA.out hbt)
          have HDONE := HDA
          clear hbt hbt2 HOA HDA HLB HBP
          go_wp2_with fail
          clear hwt hTT
          go_loopw [3, 9] (fun u i wr => ∃ (k : Nat) (done : Nm), i = .int .i64 k ∧ k ≤ nD ∧ Hid (OwnG 9 strV wr W0.heap.size u done ∧ done = (r.errs.map eRow ++ r.flaws.map fRow) ++ (r.edges.take k).map dRow) ∧ Hid (LinT W0 T (wE.map strV).toArray wr ∧ ∀ b, u.ownBlock = some b → b ≠ T)) (fun _ i _ => nD - (intOf i).toNat)
          case atStart => exact ⟨0, done, rfl, Nat.zero_le _, Lib.hid ⟨HOWN.out, by rw [HDONE.out]; simp⟩, HLT.out⟩
          case round =>
            clear HOWN HDONE HLT
            rename World => wr
            obtain ⟨k, done, rfl, hk, HO, HB⟩ := hrel
            obtain ⟨hown, hdone⟩ := HO.out
            obtain ⟨au, cu, rfl⟩ := hown.shape
            have hB0 : Below W0.heap.size W0 wr := HB.out.1.below
            have hBw : Below w.heap.size w wr := HB0.out.trans (hB0.mono HB0.out.size)
            have rb := (hB0.block RB (kblock_lt HRB.out)).trans HRB.out
            have r2 := kcell rb 2 _ rfl
            have hdl : done.length ≤ 5000 := by rw [hdone]; have := HFEW.out; simp only [List.length_append, List.length_map, List.length_take]; omega
            generalize hdn : done.length = dl at *
            by_cases hlt : k < nD
            · have hkl : k < r.edges.length := by rw [HND.out]; exact hlt
              have hltz : (k : Int) < (nD : Int) := by omega
              have hkz : (0 : Int) ≤ (k : Int) := by omega
              obtain ⟨g, off, cs, rfl, hg, hat, hck, hcl⟩ := (HA.out.d).get EdAt.len hkl
              have hok := HF.out.ok.edges _ (List.getElem_mem hkl)
              have hfw := HF.out.edges _ (List.getElem_mem hkl)
              have HD2 : Hid (done ++ [dRow r.edges[k]] = (r.errs.map eRow ++ r.flaws.map fRow) ++ (r.edges.take (k + 1)).map dRow) := Lib.hid (by rw [hdone, List.take_succ_eq_append_getElem hkl, List.map_append]; simp)
              generalize r.edges[k] = f at *
              have HBASE := Lib.hid (OwnG.base_le hown); have HLTB := Lib.hid (OwnG.ltL hown); have HBZ := Lib.hid hB0.size; have HDN := Lib.hid (show done.length ≤ 5000 by omega)
              obtain ⟨v1, v2, v3, rfl, a1, a2, a3⟩ := id hat
              obtain ⟨⟨q1, d1, rfl, -⟩, -⟩ := id a1
              obtain ⟨⟨q2, d2, rfl, -⟩, -⟩ := id a2
              obtain ⟨⟨q3, d3, rfl, -⟩, -⟩ := id a3
              have hHN := fun (W : World) (hb : Below w.heap.size w W) => ref_NameText (.slice q1 f.par.length d1) f.par W (a1.below hb).1 hok.par.1
              have hHM := fun (W : World) (hb : Below w.heap.size w W) => ref_NameText (.slice q2 f.chi.length d2) f.chi W (a2.below hb).1 hok.chi.1
              have hHI := fun (W : World) (hb : Below w.heap.size w W) => rep_num f.srv hfw.1 hfw.2 W
              have hhost : (f.host.length = 0 ∧ (⟨(hostW f.host).toArray⟩ : ByteArray) = ⟨#[45]⟩) ∨ ((0 : Int) < (f.host.length : Int) ∧ ∀ W, Below w.heap.size w W → Calls Tryd.prog 13 #[.slice q3 f.host.length d3] W fun e w' => e = .returned (.string ⟨(hostW f.host).toArray⟩) ∧ Below W.heap.size W w') := by
                by_cases h0 : f.host.length = 0
                · left
                  refine ⟨h0, ?_⟩
                  have : f.host = [] := List.eq_nil_of_length_eq_zero h0
                  rw [this]; rfl
                · right
                  refine ⟨by omega, fun W hb => ?_⟩
                  have hne : f.host ≠ [] := fun e => h0 (by rw [e]; rfl)
                  rw [show hostW f.host = textN f.host from if_neg hne]
                  exact ref_NameText _ f.host W (a3.below hb).1 hok.host.1
              have hR : dRow f = [101, 100, 103, 101, 32] ++ wE.getD f.kind.toNat [] ++ [32] ++ textN f.par ++ [32] ++ textN f.chi ++ [32] ++ hostW f.host ++ [32] ++ Lib.itoa f.srv := rfl
              have hL := dRow_len hok
              have hkd := hok.kind
              have hwc := word_cell (l := wE) HB.out.1.t f.kind hok.kind.1 hok.kind.2
              have c0 := (hBw.cell (p := ⟨g, off + k * 5 + 0, none⟩) hg).trans (hcl 0 _ rfl)
              have c1 := (hBw.cell (p := ⟨g, off + k * 5 + 1, none⟩) hg).trans (hcl 1 _ rfl)
              have c2 := (hBw.cell (p := ⟨g, off + k * 5 + 2, none⟩) hg).trans (hcl 2 _ rfl)
              have c3 := (hBw.cell (p := ⟨g, off + k * 5 + 3, none⟩) hg).trans (hcl 3 _ rfl)
              have c4 := (hBw.cell (p := ⟨g, off + k * 5 + 4, none⟩) hg).trans (hcl 4 _ rfl)
              simp only [Nat.add_zero, Nat.mul_one] at c0
              generalize dRow f = res at *
              generalize wE.getD f.kind.toNat [] = x1 at *
              generalize textN f.par = x2 at *
              generalize textN f.chi = x3 at *
              generalize hostW f.host = x4 at *
              generalize Lib.itoa f.srv = x5 at *
              generalize f.kind = kd at *
              generalize f.srv = sv at *
              generalize f.par.length = n1 at *
              generalize f.chi.length = n2 at *
              generalize f.host.length = n3 at *
              replace hL : res.length ≤ 1000000000000 := by omega
              have hz := hL
              rw [hR] at hz
              simp only [List.length_append] at hz
              have hL0 := hL
              have A0 := add_rep ([101, 100, 103, 101, 32]) x1 ([101, 100, 103, 101, 32] ++ x1) rfl (by simp only [List.length_append]; omega)
              have A1 := add_rep ([101, 100, 103, 101, 32] ++ x1) [32] ([101, 100, 103, 101, 32] ++ x1 ++ [32]) rfl (by simp only [List.length_append]; omega)
              have A2 := add_rep ([101, 100, 103, 101, 32] ++ x1 ++ [32]) x2 ([101, 100, 103, 101, 32] ++ x1 ++ [32] ++ x2) rfl (by simp only [List.length_append]; omega)
              have A3 := add_rep ([101, 100, 103, 101, 32] ++ x1 ++ [32] ++ x2) [32] ([101, 100, 103, 101, 32] ++ x1 ++ [32] ++ x2 ++ [32]) rfl (by simp only [List.length_append]; omega)
              have A4 := add_rep ([101, 100, 103, 101, 32] ++ x1 ++ [32] ++ x2 ++ [32]) x3 ([101, 100, 103, 101, 32] ++ x1 ++ [32] ++ x2 ++ [32] ++ x3) rfl (by simp only [List.length_append]; omega)
              have A5 := add_rep ([101, 100, 103, 101, 32] ++ x1 ++ [32] ++ x2 ++ [32] ++ x3) [32] ([101, 100, 103, 101, 32] ++ x1 ++ [32] ++ x2 ++ [32] ++ x3 ++ [32]) rfl (by simp only [List.length_append]; omega)
              have A6 := add_rep ([101, 100, 103, 101, 32] ++ x1 ++ [32] ++ x2 ++ [32] ++ x3 ++ [32]) x4 ([101, 100, 103, 101, 32] ++ x1 ++ [32] ++ x2 ++ [32] ++ x3 ++ [32] ++ x4) rfl (by simp only [List.length_append]; omega)
              have A7 := add_rep ([101, 100, 103, 101, 32] ++ x1 ++ [32] ++ x2 ++ [32] ++ x3 ++ [32] ++ x4) [32] ([101, 100, 103, 101, 32] ++ x1 ++ [32] ++ x2 ++ [32] ++ x3 ++ [32] ++ x4 ++ [32]) rfl (by simp only [List.length_append]; omega)
              have A8 := add_rep ([101, 100, 103, 101, 32] ++ x1 ++ [32] ++ x2 ++ [32] ++ x3 ++ [32] ++ x4 ++ [32]) x5 res hR hL
              generalize (⟨([101, 100, 103, 101, 32] ++ x1 ++ [32] ++ x2 ++ [32] ++ x3 ++ [32] ++ x4 ++ [32]).toArray⟩ : ByteArray) = b7 at *
              generalize (⟨([101, 100, 103, 101, 32] ++ x1 ++ [32] ++ x2 ++ [32] ++ x3 ++ [32] ++ x4).toArray⟩ : ByteArray) = b6 at *
              generalize (⟨([101, 100, 103, 101, 32] ++ x1 ++ [32] ++ x2 ++ [32] ++ x3 ++ [32]).toArray⟩ : ByteArray) = b5 at *
              generalize (⟨([101, 100, 103, 101, 32] ++ x1 ++ [32] ++ x2 ++ [32] ++ x3).toArray⟩ : ByteArray) = b4 at *
              generalize (⟨([101, 100, 103, 101, 32] ++ x1 ++ [32] ++ x2 ++ [32]).toArray⟩ : ByteArray) = b3 at *
              generalize (⟨([101, 100, 103, 101, 32] ++ x1 ++ [32] ++ x2).toArray⟩ : ByteArray) = b2 at *
              generalize (⟨([101, 100, 103, 101, 32] ++ x1 ++ [32]).toArray⟩ : ByteArray) = b1 at *
              generalize (⟨([101, 100, 103, 101, 32] ++ x1).toArray⟩ : ByteArray) = b0 at *
              generalize (⟨x1.toArray⟩ : ByteArray) = cx1 at *
              generalize (⟨x2.toArray⟩ : ByteArray) = cx2 at *
              generalize (⟨x3.toArray⟩ : ByteArray) = cx3 at *
              generalize (⟨x4.toArray⟩ : ByteArray) = cx4 at *
              generalize (⟨x5.toArray⟩ : ByteArray) = cx5 at *
              have B0 : ∀ W, (Op.stringOp .add (⟨#[101, 100, 103, 101, 32]⟩ : ByteArray) cx1).run Tryd.prog W = .ok (.string b0) W := A0
              have B1 : ∀ W, (Op.stringOp .add b0 (⟨#[32]⟩ : ByteArray)).run Tryd.prog W = .ok (.string b1) W := A1
              have B2 : ∀ W, (Op.stringOp .add b1 cx2).run Tryd.prog W = .ok (.string b2) W := A2
              have B3 : ∀ W, (Op.stringOp .add b2 (⟨#[32]⟩ : ByteArray)).run Tryd.prog W = .ok (.string b3) W := A3
              have B4 : ∀ W, (Op.stringOp .add b3 cx3).run Tryd.prog W = .ok (.string b4) W := A4
              have B5 : ∀ W, (Op.stringOp .add b4 (⟨#[32]⟩ : ByteArray)).run Tryd.prog W = .ok (.string b5) W := A5
              have B6 : ∀ W, (Op.stringOp .add b5 cx4).run Tryd.prog W = .ok (.string b6) W := A6
              have B7 : ∀ W, (Op.stringOp .add b6 (⟨#[32]⟩ : ByteArray)).run Tryd.prog W = .ok (.string b7) W := A7
              have B8 : ∀ W, (Op.stringOp .add b7 cx5).run Tryd.prog W = .ok (.string ⟨res.toArray⟩) W := A8
              clear A0 A1 A2 A3 A4 A5 A6 A7 A8
              obtain ⟨cw, hcw⟩ : ∃ s, s = cx1 := ⟨_, rfl⟩
              subst hcw
              obtain ⟨X, hX⟩ : ∃ n, wr.heap.size = n := ⟨_, rfl⟩
              obtain ⟨wx, hwx⟩ : ∃ wx, wr.alloc (.cells #[.int .i64 kd, .slice q1 n1 d1, .slice q2 n2 d2, .slice q3 n3 d3, .int .i64 sv] 47) = wx := ⟨_, rfl⟩
              have hbx : Below wr.heap.size wr wx := by rw [← hwx]; exact (Below.refl _ wr).alloc (Nat.le_refl _) _
              have hxb : wx.heap[X]? = some (.cells #[.int .i64 kd, .slice q1 n1 d1, .slice q2 n2 d2, .slice q3 n3 d3, .int .i64 sv] 47) := by rw [← hwx, ← hX]; exact knew _ _
              have HTX := Lib.hid (kblock_lt HB.out.1.t)
              have HNEX : Hid (∀ c, (Value.slice au dl cu).ownBlock = some c → W0.heap.size ≤ c ∧ c ≠ X ∧ c ≠ T) := Lib.hid (fun c e => ⟨HBASE.out c e, by have := HLTB.out c e; omega, HB.out.2 c e⟩)
              have KS := Lib.hid (fun (W W' : World) (h : W.cell? ⟨X, 0, none⟩ = some (.int .i64 kd) ∧ W.cell? ⟨X, 1, none⟩ = some (.slice q1 n1 d1) ∧ W.cell? ⟨X, 2, none⟩ = some (.slice q2 n2 d2) ∧ W.cell? ⟨X, 3, none⟩ = some (.slice q3 n3 d3) ∧ W.cell? ⟨X, 4, none⟩ = some (.int .i64 sv) ∧ W.cell? ⟨T, kd.toNat, none⟩ = some (.string cw) ∧ LinT W0 T (wE.map strV).toArray W) (hb : Below W.heap.size W W') => (⟨cell_below hb h.1, cell_below hb h.2.1, cell_below hb h.2.2.1, cell_below hb h.2.2.2.1, cell_below hb h.2.2.2.2.1, cell_below hb h.2.2.2.2.2.1, h.2.2.2.2.2.2.keep hb⟩ : W'.cell? ⟨X, 0, none⟩ = some (.int .i64 kd) ∧ W'.cell? ⟨X, 1, none⟩ = some (.slice q1 n1 d1) ∧ W'.cell? ⟨X, 2, none⟩ = some (.slice q2 n2 d2) ∧ W'.cell? ⟨X, 3, none⟩ = some (.slice q3 n3 d3) ∧ W'.cell? ⟨X, 4, none⟩ = some (.int .i64 sv) ∧ W'.cell? ⟨T, kd.toNat, none⟩ = some (.string cw) ∧ LinT W0 T (wE.map strV).toArray W'))
              have KD := Lib.hid (fun (W : World) (h : W.cell? ⟨X, 0, none⟩ = some (.int .i64 kd) ∧ W.cell? ⟨X, 1, none⟩ = some (.slice q1 n1 d1) ∧ W.cell? ⟨X, 2, none⟩ = some (.slice q2 n2 d2) ∧ W.cell? ⟨X, 3, none⟩ = some (.slice q3 n3 d3) ∧ W.cell? ⟨X, 4, none⟩ = some (.int .i64 sv) ∧ W.cell? ⟨T, kd.toNat, none⟩ = some (.string cw) ∧ LinT W0 T (wE.map strV).toArray W) => KS.out W W.drew h (below_drewL W))
              have KA := Lib.hid (fun (W : World) (o : Obj) (h : W.cell? ⟨X, 0, none⟩ = some (.int .i64 kd) ∧ W.cell? ⟨X, 1, none⟩ = some (.slice q1 n1 d1) ∧ W.cell? ⟨X, 2, none⟩ = some (.slice q2 n2 d2) ∧ W.cell? ⟨X, 3, none⟩ = some (.slice q3 n3 d3) ∧ W.cell? ⟨X, 4, none⟩ = some (.int .i64 sv) ∧ W.cell? ⟨T, kd.toNat, none⟩ = some (.string cw) ∧ LinT W0 T (wE.map strV).toArray W) => KS.out W (W.alloc o) h ((Below.refl _ W).alloc (Nat.le_refl _) o))
              have KG := Lib.hid (fun (W W' : World) (h : W.cell? ⟨X, 0, none⟩ = some (.int .i64 kd) ∧ W.cell? ⟨X, 1, none⟩ = some (.slice q1 n1 d1) ∧ W.cell? ⟨X, 2, none⟩ = some (.slice q2 n2 d2) ∧ W.cell? ⟨X, 3, none⟩ = some (.slice q3 n3 d3) ∧ W.cell? ⟨X, 4, none⟩ = some (.int .i64 sv) ∧ W.cell? ⟨T, kd.toNat, none⟩ = some (.string cw) ∧ LinT W0 T (wE.map strV).toArray W) (hg : W.grownBy W' (Value.slice au dl cu).ownBlock) => (⟨cell_grown hg h.1 (fun c e => (HNEX.out c e).2.1), cell_grown hg h.2.1 (fun c e => (HNEX.out c e).2.1), cell_grown hg h.2.2.1 (fun c e => (HNEX.out c e).2.1), cell_grown hg h.2.2.2.1 (fun c e => (HNEX.out c e).2.1), cell_grown hg h.2.2.2.2.1 (fun c e => (HNEX.out c e).2.1), cell_grown hg h.2.2.2.2.2.1 (fun c e => (HNEX.out c e).2.2), h.2.2.2.2.2.2.grown hg (fun c e => ⟨(HNEX.out c e).1, (HNEX.out c e).2.2⟩)⟩ : W'.cell? ⟨X, 0, none⟩ = some (.int .i64 kd) ∧ W'.cell? ⟨X, 1, none⟩ = some (.slice q1 n1 d1) ∧ W'.cell? ⟨X, 2, none⟩ = some (.slice q2 n2 d2) ∧ W'.cell? ⟨X, 3, none⟩ = some (.slice q3 n3 d3) ∧ W'.cell? ⟨X, 4, none⟩ = some (.int .i64 sv) ∧ W'.cell? ⟨T, kd.toNat, none⟩ = some (.string cw) ∧ LinT W0 T (wE.map strV).toArray W'))
              have HN := Lib.hid (fun (W : World) (h : W.cell? ⟨X, 0, none⟩ = some (.int .i64 kd) ∧ W.cell? ⟨X, 1, none⟩ = some (.slice q1 n1 d1) ∧ W.cell? ⟨X, 2, none⟩ = some (.slice q2 n2 d2) ∧ W.cell? ⟨X, 3, none⟩ = some (.slice q3 n3 d3) ∧ W.cell? ⟨X, 4, none⟩ = some (.int .i64 sv) ∧ W.cell? ⟨T, kd.toNat, none⟩ = some (.string cw) ∧ LinT W0 T (wE.map strV).toArray W) => hHN W (HB0.out.trans (h.2.2.2.2.2.2.below.mono HB0.out.size)))
              have HM := Lib.hid (fun (W : World) (h : W.cell? ⟨X, 0, none⟩ = some (.int .i64 kd) ∧ W.cell? ⟨X, 1, none⟩ = some (.slice q1 n1 d1) ∧ W.cell? ⟨X, 2, none⟩ = some (.slice q2 n2 d2) ∧ W.cell? ⟨X, 3, none⟩ = some (.slice q3 n3 d3) ∧ W.cell? ⟨X, 4, none⟩ = some (.int .i64 sv) ∧ W.cell? ⟨T, kd.toNat, none⟩ = some (.string cw) ∧ LinT W0 T (wE.map strV).toArray W) => hHM W (HB0.out.trans (h.2.2.2.2.2.2.below.mono HB0.out.size)))
              have HI := Lib.hid (fun (W : World) (h : W.cell? ⟨X, 0, none⟩ = some (.int .i64 kd) ∧ W.cell? ⟨X, 1, none⟩ = some (.slice q1 n1 d1) ∧ W.cell? ⟨X, 2, none⟩ = some (.slice q2 n2 d2) ∧ W.cell? ⟨X, 3, none⟩ = some (.slice q3 n3 d3) ∧ W.cell? ⟨X, 4, none⟩ = some (.int .i64 sv) ∧ W.cell? ⟨T, kd.toNat, none⟩ = some (.string cw) ∧ LinT W0 T (wE.map strV).toArray W) => hHI W (HB0.out.trans (h.2.2.2.2.2.2.below.mono HB0.out.size)))
              have hlx : LinT W0 T (wE.map strV).toArray wx := HB.out.1.keep hbx
              have hS0 : wx.cell? ⟨X, 0, none⟩ = some (.int .i64 kd) ∧ wx.cell? ⟨X, 1, none⟩ = some (.slice q1 n1 d1) ∧ wx.cell? ⟨X, 2, none⟩ = some (.slice q2 n2 d2) ∧ wx.cell? ⟨X, 3, none⟩ = some (.slice q3 n3 d3) ∧ wx.cell? ⟨X, 4, none⟩ = some (.int .i64 sv) ∧ wx.cell? ⟨T, kd.toNat, none⟩ = some (.string cw) ∧ LinT W0 T (wE.map strV).toArray wx := ⟨kcell hxb 0 _ rfl, kcell hxb 1 _ rfl, kcell hxb 2 _ rfl, kcell hxb 3 _ rfl, kcell hxb 4 _ rfl, cell_below hbx hwc, hlx⟩
              have hownx := OwnG.below hown hbx
              have hbwx : Below w.heap.size w wx := hBw.trans (hbx.mono hBw.size)
              clear hHN hHM hHI hR hL hL0 hz hat hck hcl hg hok hdone hown a1 a2 a3 hfw hkl hBw rb hdn hdl hB0 HO hwc hxb hlx hbx
              rcases hhost with ⟨hn0, hx⟩ | ⟨hn0, hc⟩
              · subst hn0
                subst hx
                go_wp2_with fail
                have hown9 := hownx.drew
                clear hownx
                go_region_held3 (fun W => W.cell? ⟨X, 0, none⟩ = some (.int .i64 kd) ∧ W.cell? ⟨X, 1, none⟩ = some (.slice q1 n1 d1) ∧ W.cell? ⟨X, 2, none⟩ = some (.slice q2 n2 d2) ∧ W.cell? ⟨X, 3, none⟩ = some (.slice q3 0 d3) ∧ W.cell? ⟨X, 4, none⟩ = some (.int .i64 sv) ∧ W.cell? ⟨T, kd.toNat, none⟩ = some (.string cw) ∧ LinT W0 T (wE.map strV).toArray W)
                  (first | with_reducible assumption | (with_reducible exact KD.out _ (by with_reducible assumption)) | (with_reducible exact KA.out _ _ (by with_reducible assumption)))
                  (first | ((with_reducible refine (HN.out _ (by with_reducible assumption)).mono ?_); rintro e w2 ⟨rfl, hb2⟩; have hS2 := KS.out _ _ (by with_reducible assumption) hb2; have ho2 := OwnG.below hown9 hb2) | ((with_reducible refine (HM.out _ (by with_reducible assumption)).mono ?_); rintro e w2 ⟨rfl, hb2⟩; have hS2 := KS.out _ _ (by with_reducible assumption) hb2; have ho2 := OwnG.below ho2 hb2) | ((with_reducible refine (HI.out _ (by with_reducible assumption)).mono ?_); rintro e w2 ⟨rfl, hb2⟩; have hS2 := KS.out _ _ (by with_reducible assumption) hb2; have ho2 := OwnG.below ho2 hb2) | ((have hq := ho2; clear hq; refine step_append_l w2 (by rfl) _ _ (by rfl) W0.heap.size au dl cu done res (by rfl) ho2 (by rfl) (hS2.2.2.2.2.2.2.below.size) HDN.out ?_); intro g9 n9 c9 w3 ho3 hg3 hq3; have hS3 := KG.out _ _ (by assumption) hg3))
                all_goals
                  rename_i hSe
                  have HB3 := Lib.hid hSe.2.2.2.2.2.2
                  have HO3 := Lib.hid ho3
                  have HNT := Lib.hid (show ∀ b, (Value.slice (some ⟨g9, 0, none⟩) n9 c9).ownBlock = some b → b ≠ T from fun b e => by
                    have e2 : g9 = b := by simpa [Value.ownBlock] using e
                    subst e2
                    rcases hq3 with q | q
                    · exact (HNEX.out _ q).2.2
                    · have := HTX.out; have := hS2.2.2.2.2.2.2.below.size; have h9 := kblock_lt hS2.2.2.2.2.2.2.t; omega)
                  clear hSe hS3 hS2 ho3 ho2 hg3 hq3 hb2
                  go_wp2_with fail
                  go_roundw
                  case rel => exact ⟨k + 1, done ++ [res], by go_num, by omega, Lib.hid ⟨HO3.out, HD2.out⟩, Lib.hid ⟨HB3.out, HNT.out⟩⟩
                  case measure => simp [intOf]; omega
              · go_wp2_with fail
                refine (hc _ hbwx).mono ?_
                rintro e w4 ⟨rfl, hb4⟩
                have hS1 := KS.out _ _ hS0 hb4
                have hown9 := (OwnG.below hownx hb4).drew
                clear hS0 hb4 hc hownx
                go_wp2_with fail
                go_region_held3 (fun W => W.cell? ⟨X, 0, none⟩ = some (.int .i64 kd) ∧ W.cell? ⟨X, 1, none⟩ = some (.slice q1 n1 d1) ∧ W.cell? ⟨X, 2, none⟩ = some (.slice q2 n2 d2) ∧ W.cell? ⟨X, 3, none⟩ = some (.slice q3 n3 d3) ∧ W.cell? ⟨X, 4, none⟩ = some (.int .i64 sv) ∧ W.cell? ⟨T, kd.toNat, none⟩ = some (.string cw) ∧ LinT W0 T (wE.map strV).toArray W)
                  (first | with_reducible assumption | (with_reducible exact KD.out _ (by with_reducible assumption)) | (with_reducible exact KA.out _ _ (by with_reducible assumption)))
                  (first | ((with_reducible refine (HN.out _ (by with_reducible assumption)).mono ?_); rintro e w2 ⟨rfl, hb2⟩; have hS2 := KS.out _ _ (by with_reducible assumption) hb2; have ho2 := OwnG.below hown9 hb2) | ((with_reducible refine (HM.out _ (by with_reducible assumption)).mono ?_); rintro e w2 ⟨rfl, hb2⟩; have hS2 := KS.out _ _ (by with_reducible assumption) hb2; have ho2 := OwnG.below ho2 hb2) | ((with_reducible refine (HI.out _ (by with_reducible assumption)).mono ?_); rintro e w2 ⟨rfl, hb2⟩; have hS2 := KS.out _ _ (by with_reducible assumption) hb2; have ho2 := OwnG.below ho2 hb2) | ((have hq := ho2; clear hq; refine step_append_l w2 (by rfl) _ _ (by rfl) W0.heap.size au dl cu done res (by rfl) ho2 (by rfl) (hS2.2.2.2.2.2.2.below.size) HDN.out ?_); intro g9 n9 c9 w3 ho3 hg3 hq3; have hS3 := KG.out _ _ (by assumption) hg3))
                all_goals
                  rename_i hSe
                  have HB3 := Lib.hid hSe.2.2.2.2.2.2
                  have HO3 := Lib.hid ho3
                  have HNT := Lib.hid (show ∀ b, (Value.slice (some ⟨g9, 0, none⟩) n9 c9).ownBlock = some b → b ≠ T from fun b e => by
                    have e2 : g9 = b := by simpa [Value.ownBlock] using e
                    subst e2
                    rcases hq3 with q | q
                    · exact (HNEX.out _ q).2.2
                    · have := HTX.out; have := hS2.2.2.2.2.2.2.below.size; have h9 := kblock_lt hS2.2.2.2.2.2.2.t; omega)
                  clear hSe hS3 hS2 ho3 ho2 hg3 hq3 hb2
                  go_wp2_with fail
                  go_roundw
                  case rel => exact ⟨k + 1, done ++ [res], by go_num, by omega, Lib.hid ⟨HO3.out, HD2.out⟩, Lib.hid ⟨HB3.out, HNT.out⟩⟩
                  case measure => simp [intOf]; omega
            · obtain rfl : nD = k := by omega
              have hfull : done = r.errs.map eRow ++ r.flaws.map fRow ++ r.edges.map dRow := by rw [hdone, List.take_of_length_le (by rw [HND.out]; exact Nat.le_refl _)]
              have HDN := Lib.hid (show done.length ≤ 5000 by omega)
              have HOA := Lib.hid hown; have HDA := Lib.hid hfull; have HLB := Lib.hid (OwnG.ltL hown)
              clear hown hdone hfull hlt hk HO hdl
              have HBP := Lib.hid hB0
              clear hB0 HB hBw rb hdn
              obtain ⟨T, hTT⟩ : ∃ n, wr.heap.size = n := ⟨_, rfl⟩
              obtain ⟨wt, hwt⟩ : ∃ wt, wr.alloc (.cells #[.string ⟨#[103, 111, 105, 110, 103]⟩, .string ⟨#[102, 111, 117, 110, 100]⟩, .string ⟨#[101, 109, 112, 116, 121]⟩, .string ⟨#[109, 105, 115, 115, 105, 110, 103]⟩, .string ⟨#[116, 111, 111, 108, 111, 110, 103]⟩, .string ⟨#[114, 101, 102, 117, 115, 101, 100]⟩, .string ⟨#[108, 97, 109, 101]⟩, .string ⟨#[108, 111, 111, 112]⟩, .string ⟨#[102, 97, 114]⟩, .string ⟨#[103, 111, 110, 101]⟩] 9) = wt := ⟨_, rfl⟩
              have hbt : Below wr.heap.size wr wt := by rw [← hwt]; exact (Below.refl _ wr).alloc (Nat.le_refl _) _
              have hbt2 : wt.heap[T]? = some (.cells (wS.map strV).toArray 9) := by rw [← hwt, ← hTT]; exact knew _ _
              have HLT : Hid (LinT W0 T (wS.map strV).toArray wt ∧ ∀ b, (Value.slice au dl cu).ownBlock = some b → b ≠ T) := Lib.hid ⟨⟨hbt2, HBP.out.trans (hbt.mono HBP.out.size)⟩, fun b e => by have := HLB.out b e; omega⟩
              have HOWN := Lib.hid (OwnG.below HOA.out hbt)
              have HDONE := HDA
              clear hbt hbt2 HOA HDA HLB HBP
              go_wp2_with fail
              clear hwt hTT
              go_loopw [3, 12] (fun u i wr => ∃ (k : Nat) (done : Nm), i = .int .i64 k ∧ k ≤ nS ∧ Hid (OwnG 9 strV wr W0.heap.size u done ∧ done = (r.errs.map eRow ++ r.flaws.map fRow ++ r.edges.map dRow) ++ (r.seen.take k).map sRow) ∧ Hid (LinT W0 T (wS.map strV).toArray wr ∧ ∀ b, u.ownBlock = some b → b ≠ T)) (fun _ i _ => nS - (intOf i).toNat)
              case atStart => exact ⟨0, done, rfl, Nat.zero_le _, Lib.hid ⟨HOWN.out, by rw [HDONE.out]; simp⟩, HLT.out⟩
              case round =>
                clear HOWN HDONE HLT
                rename World => wr
                obtain ⟨k, done, rfl, hk, HO, HB⟩ := hrel
                obtain ⟨hown, hdone⟩ := HO.out
                obtain ⟨au, cu, rfl⟩ := hown.shape
                have hB0 : Below W0.heap.size W0 wr := HB.out.1.below
                have hBw : Below w.heap.size w wr := HB0.out.trans (hB0.mono HB0.out.size)
                have rb := (hB0.block RB (kblock_lt HRB.out)).trans HRB.out
                have r3 := kcell rb 3 _ rfl
                have hdl : done.length ≤ 5000 := by rw [hdone]; have := HFEW.out; simp only [List.length_append, List.length_map, List.length_take]; omega
                generalize hdn : done.length = dl at *
                by_cases hlt : k < nS
                · have hkl : k < r.seen.length := by rw [HNS.out]; exact hlt
                  have hltz : (k : Int) < (nS : Int) := by omega
                  have hkz : (0 : Int) ≤ (k : Int) := by omega
                  obtain ⟨g, off, cs, rfl, hg, hat, hck, hcl⟩ := (HA.out.s).get SnAt.len hkl
                  have hok := HF.out.ok.seen _ (List.getElem_mem hkl)
                  have hfw := HF.out.seen _ (List.getElem_mem hkl)
                  have HD2 : Hid (done ++ [sRow r.seen[k]] = (r.errs.map eRow ++ r.flaws.map fRow ++ r.edges.map dRow) ++ (r.seen.take (k + 1)).map sRow) := Lib.hid (by rw [hdone, List.take_succ_eq_append_getElem hkl, List.map_append]; simp)
                  generalize r.seen[k] = f at *
                  have HBASE := Lib.hid (OwnG.base_le hown); have HLTB := Lib.hid (OwnG.ltL hown); have HBZ := Lib.hid hB0.size; have HDN := Lib.hid (show done.length ≤ 5000 by omega)
                  obtain ⟨v1, v2, rfl, a1, a2⟩ := id hat
                  obtain ⟨⟨q1, d1, rfl, -⟩, -⟩ := id a1
                  obtain ⟨q2, d2, rfl, -⟩ := id a2
                  have hHN := fun (W : World) (hb : Below w.heap.size w W) => ref_NameText (.slice q1 f.nm.length d1) f.nm W (a1.below hb).1 hok.nm.1
                  have hHT := fun (W : World) (hb : Below w.heap.size w W) => ref_TyText f.ty hfw.1 W
                  have hpk := fun (W : World) (hb : Below w.heap.size w W) => a2.below hb
                  have HFW := Lib.hid hfw
                  have hpw : (f.picks = [] → (⟨(picksW f.picks).toArray⟩ : ByteArray) = ⟨#[45]⟩) ∧ (f.picks ≠ [] → (⟨(picksW f.picks).toArray⟩ : ByteArray) = ⟨(sepBy [44] (f.picks.map Lib.itoa)).toArray⟩) := ⟨fun h => by rw [h]; rfl, fun h => by rw [show picksW f.picks = sepBy [44] (f.picks.map Lib.itoa) from if_neg h]⟩
                  have hR : sRow f = [115, 101, 101, 110, 32] ++ wS.getD f.kind.toNat [] ++ [32] ++ textN f.nm ++ [32] ++ typeTextM f.ty ++ [32] ++ picksW f.picks := rfl
                  have hL := sRow_len hok
                  have hkd := hok.kind
                  have hwc := word_cell (l := wS) HB.out.1.t f.kind hok.kind.1 hok.kind.2
                  have c0 := (hBw.cell (p := ⟨g, off + k * 4 + 0, none⟩) hg).trans (hcl 0 _ rfl)
                  have c1 := (hBw.cell (p := ⟨g, off + k * 4 + 1, none⟩) hg).trans (hcl 1 _ rfl)
                  have c2 := (hBw.cell (p := ⟨g, off + k * 4 + 2, none⟩) hg).trans (hcl 2 _ rfl)
                  have c3 := (hBw.cell (p := ⟨g, off + k * 4 + 3, none⟩) hg).trans (hcl 3 _ rfl)
                  simp only [Nat.add_zero, Nat.mul_one] at c0
                  generalize sRow f = res at *
                  generalize wS.getD f.kind.toNat [] = x1 at *
                  generalize textN f.nm = x2 at *
                  generalize typeTextM f.ty = x3 at *
                  generalize picksW f.picks = x4 at *
                  generalize hpl : f.picks = pk at *
                  generalize f.kind = kd at *
                  generalize f.ty = ty at *
                  generalize f.nm.length = n1 at *
                  generalize hn2 : (List.map (fun p => Value.int IntKind.i64 p) pk).length = n2 at *
                  replace hL : res.length ≤ 1000000000000 := by omega
                  have hz := hL
                  rw [hR] at hz
                  simp only [List.length_append] at hz
                  have hL0 := hL
                  have A0 := add_rep ([115, 101, 101, 110, 32]) x1 ([115, 101, 101, 110, 32] ++ x1) rfl (by simp only [List.length_append]; omega)
                  have A1 := add_rep ([115, 101, 101, 110, 32] ++ x1) [32] ([115, 101, 101, 110, 32] ++ x1 ++ [32]) rfl (by simp only [List.length_append]; omega)
                  have A2 := add_rep ([115, 101, 101, 110, 32] ++ x1 ++ [32]) x2 ([115, 101, 101, 110, 32] ++ x1 ++ [32] ++ x2) rfl (by simp only [List.length_append]; omega)
                  have A3 := add_rep ([115, 101, 101, 110, 32] ++ x1 ++ [32] ++ x2) [32] ([115, 101, 101, 110, 32] ++ x1 ++ [32] ++ x2 ++ [32]) rfl (by simp only [List.length_append]; omega)
                  have A4 := add_rep ([115, 101, 101, 110, 32] ++ x1 ++ [32] ++ x2 ++ [32]) x3 ([115, 101, 101, 110, 32] ++ x1 ++ [32] ++ x2 ++ [32] ++ x3) rfl (by simp only [List.length_append]; omega)
                  have A5 := add_rep ([115, 101, 101, 110, 32] ++ x1 ++ [32] ++ x2 ++ [32] ++ x3) [32] ([115, 101, 101, 110, 32] ++ x1 ++ [32] ++ x2 ++ [32] ++ x3 ++ [32]) rfl (by simp only [List.length_append]; omega)
                  have A6 := add_rep ([115, 101, 101, 110, 32] ++ x1 ++ [32] ++ x2 ++ [32] ++ x3 ++ [32]) x4 res hR hL
                  generalize (⟨([115, 101, 101, 110, 32] ++ x1 ++ [32] ++ x2 ++ [32] ++ x3 ++ [32]).toArray⟩ : ByteArray) = b5 at *
                  generalize (⟨([115, 101, 101, 110, 32] ++ x1 ++ [32] ++ x2 ++ [32] ++ x3).toArray⟩ : ByteArray) = b4 at *
                  generalize (⟨([115, 101, 101, 110, 32] ++ x1 ++ [32] ++ x2 ++ [32]).toArray⟩ : ByteArray) = b3 at *
                  generalize (⟨([115, 101, 101, 110, 32] ++ x1 ++ [32] ++ x2).toArray⟩ : ByteArray) = b2 at *
                  generalize (⟨([115, 101, 101, 110, 32] ++ x1 ++ [32]).toArray⟩ : ByteArray) = b1 at *
                  generalize (⟨([115, 101, 101, 110, 32] ++ x1).toArray⟩ : ByteArray) = b0 at *
                  generalize (⟨x1.toArray⟩ : ByteArray) = cx1 at *
                  generalize (⟨x2.toArray⟩ : ByteArray) = cx2 at *
                  generalize (⟨x3.toArray⟩ : ByteArray) = cx3 at *
                  generalize (⟨x4.toArray⟩ : ByteArray) = cx4 at *
                  have B0 : ∀ W, (Op.stringOp .add (⟨#[115, 101, 101, 110, 32]⟩ : ByteArray) cx1).run Tryd.prog W = .ok (.string b0) W := A0
                  have B1 : ∀ W, (Op.stringOp .add b0 (⟨#[32]⟩ : ByteArray)).run Tryd.prog W = .ok (.string b1) W := A1
                  have B2 : ∀ W, (Op.stringOp .add b1 cx2).run Tryd.prog W = .ok (.string b2) W := A2
                  have B3 : ∀ W, (Op.stringOp .add b2 (⟨#[32]⟩ : ByteArray)).run Tryd.prog W = .ok (.string b3) W := A3
                  have B4 : ∀ W, (Op.stringOp .add b3 cx3).run Tryd.prog W = .ok (.string b4) W := A4
                  have B5 : ∀ W, (Op.stringOp .add b4 (⟨#[32]⟩ : ByteArray)).run Tryd.prog W = .ok (.string b5) W := A5
                  have B6 : ∀ W, (Op.stringOp .add b5 cx4).run Tryd.prog W = .ok (.string ⟨res.toArray⟩) W := A6
                  clear A0 A1 A2 A3 A4 A5 A6
                  obtain ⟨cw, hcw⟩ : ∃ s, s = cx1 := ⟨_, rfl⟩
                  subst hcw
                  obtain ⟨X, hX⟩ : ∃ n, wr.heap.size = n := ⟨_, rfl⟩
                  obtain ⟨wx, hwx⟩ : ∃ wx, wr.alloc (.cells #[.int .i64 kd, .slice q1 n1 d1, .int .i64 ty, .slice q2 n2 d2] 44) = wx := ⟨_, rfl⟩
                  have hbx : Below wr.heap.size wr wx := by rw [← hwx]; exact (Below.refl _ wr).alloc (Nat.le_refl _) _
                  have hxb : wx.heap[X]? = some (.cells #[.int .i64 kd, .slice q1 n1 d1, .int .i64 ty, .slice q2 n2 d2] 44) := by rw [← hwx, ← hX]; exact knew _ _
                  have HTX := Lib.hid (kblock_lt HB.out.1.t)
                  have HNEX : Hid (∀ c, (Value.slice au dl cu).ownBlock = some c → W0.heap.size ≤ c ∧ c ≠ X ∧ c ≠ T) := Lib.hid (fun c e => ⟨HBASE.out c e, by have := HLTB.out c e; omega, HB.out.2 c e⟩)
                  have KS := Lib.hid (fun (W W' : World) (h : W.cell? ⟨X, 0, none⟩ = some (.int .i64 kd) ∧ W.cell? ⟨X, 1, none⟩ = some (.slice q1 n1 d1) ∧ W.cell? ⟨X, 2, none⟩ = some (.int .i64 ty) ∧ W.cell? ⟨X, 3, none⟩ = some (.slice q2 n2 d2) ∧ W.cell? ⟨T, kd.toNat, none⟩ = some (.string cw) ∧ LinT W0 T (wS.map strV).toArray W) (hb : Below W.heap.size W W') => (⟨cell_below hb h.1, cell_below hb h.2.1, cell_below hb h.2.2.1, cell_below hb h.2.2.2.1, cell_below hb h.2.2.2.2.1, h.2.2.2.2.2.keep hb⟩ : W'.cell? ⟨X, 0, none⟩ = some (.int .i64 kd) ∧ W'.cell? ⟨X, 1, none⟩ = some (.slice q1 n1 d1) ∧ W'.cell? ⟨X, 2, none⟩ = some (.int .i64 ty) ∧ W'.cell? ⟨X, 3, none⟩ = some (.slice q2 n2 d2) ∧ W'.cell? ⟨T, kd.toNat, none⟩ = some (.string cw) ∧ LinT W0 T (wS.map strV).toArray W'))
                  have KD := Lib.hid (fun (W : World) (h : W.cell? ⟨X, 0, none⟩ = some (.int .i64 kd) ∧ W.cell? ⟨X, 1, none⟩ = some (.slice q1 n1 d1) ∧ W.cell? ⟨X, 2, none⟩ = some (.int .i64 ty) ∧ W.cell? ⟨X, 3, none⟩ = some (.slice q2 n2 d2) ∧ W.cell? ⟨T, kd.toNat, none⟩ = some (.string cw) ∧ LinT W0 T (wS.map strV).toArray W) => KS.out W W.drew h (below_drewL W))
                  have KA := Lib.hid (fun (W : World) (o : Obj) (h : W.cell? ⟨X, 0, none⟩ = some (.int .i64 kd) ∧ W.cell? ⟨X, 1, none⟩ = some (.slice q1 n1 d1) ∧ W.cell? ⟨X, 2, none⟩ = some (.int .i64 ty) ∧ W.cell? ⟨X, 3, none⟩ = some (.slice q2 n2 d2) ∧ W.cell? ⟨T, kd.toNat, none⟩ = some (.string cw) ∧ LinT W0 T (wS.map strV).toArray W) => KS.out W (W.alloc o) h ((Below.refl _ W).alloc (Nat.le_refl _) o))
                  have KG := Lib.hid (fun (W W' : World) (h : W.cell? ⟨X, 0, none⟩ = some (.int .i64 kd) ∧ W.cell? ⟨X, 1, none⟩ = some (.slice q1 n1 d1) ∧ W.cell? ⟨X, 2, none⟩ = some (.int .i64 ty) ∧ W.cell? ⟨X, 3, none⟩ = some (.slice q2 n2 d2) ∧ W.cell? ⟨T, kd.toNat, none⟩ = some (.string cw) ∧ LinT W0 T (wS.map strV).toArray W) (hg : W.grownBy W' (Value.slice au dl cu).ownBlock) => (⟨cell_grown hg h.1 (fun c e => (HNEX.out c e).2.1), cell_grown hg h.2.1 (fun c e => (HNEX.out c e).2.1), cell_grown hg h.2.2.1 (fun c e => (HNEX.out c e).2.1), cell_grown hg h.2.2.2.1 (fun c e => (HNEX.out c e).2.1), cell_grown hg h.2.2.2.2.1 (fun c e => (HNEX.out c e).2.2), h.2.2.2.2.2.grown hg (fun c e => ⟨(HNEX.out c e).1, (HNEX.out c e).2.2⟩)⟩ : W'.cell? ⟨X, 0, none⟩ = some (.int .i64 kd) ∧ W'.cell? ⟨X, 1, none⟩ = some (.slice q1 n1 d1) ∧ W'.cell? ⟨X, 2, none⟩ = some (.int .i64 ty) ∧ W'.cell? ⟨X, 3, none⟩ = some (.slice q2 n2 d2) ∧ W'.cell? ⟨T, kd.toNat, none⟩ = some (.string cw) ∧ LinT W0 T (wS.map strV).toArray W'))
                  have HN := Lib.hid (fun (W : World) (h : W.cell? ⟨X, 0, none⟩ = some (.int .i64 kd) ∧ W.cell? ⟨X, 1, none⟩ = some (.slice q1 n1 d1) ∧ W.cell? ⟨X, 2, none⟩ = some (.int .i64 ty) ∧ W.cell? ⟨X, 3, none⟩ = some (.slice q2 n2 d2) ∧ W.cell? ⟨T, kd.toNat, none⟩ = some (.string cw) ∧ LinT W0 T (wS.map strV).toArray W) => hHN W (HB0.out.trans (h.2.2.2.2.2.below.mono HB0.out.size)))
                  have HT := Lib.hid (fun (W : World) (h : W.cell? ⟨X, 0, none⟩ = some (.int .i64 kd) ∧ W.cell? ⟨X, 1, none⟩ = some (.slice q1 n1 d1) ∧ W.cell? ⟨X, 2, none⟩ = some (.int .i64 ty) ∧ W.cell? ⟨X, 3, none⟩ = some (.slice q2 n2 d2) ∧ W.cell? ⟨T, kd.toNat, none⟩ = some (.string cw) ∧ LinT W0 T (wS.map strV).toArray W) => hHT W (HB0.out.trans (h.2.2.2.2.2.below.mono HB0.out.size)))
                  have hlx : LinT W0 T (wS.map strV).toArray wx := HB.out.1.keep hbx
                  have hS0 : wx.cell? ⟨X, 0, none⟩ = some (.int .i64 kd) ∧ wx.cell? ⟨X, 1, none⟩ = some (.slice q1 n1 d1) ∧ wx.cell? ⟨X, 2, none⟩ = some (.int .i64 ty) ∧ wx.cell? ⟨X, 3, none⟩ = some (.slice q2 n2 d2) ∧ wx.cell? ⟨T, kd.toNat, none⟩ = some (.string cw) ∧ LinT W0 T (wS.map strV).toArray wx := ⟨kcell hxb 0 _ rfl, kcell hxb 1 _ rfl, kcell hxb 2 _ rfl, kcell hxb 3 _ rfl, cell_below hbx hwc, hlx⟩
                  have hownx := OwnG.below hown hbx
                  have hbwx : Below w.heap.size w wx := hBw.trans (hbx.mono hBw.size)
                  clear hHN hHT hR hL hL0 hz hat hck hcl hg hok hdone hown a1 a2 hfw hkl hBw rb hdn hdl hB0 HO hwc hxb hlx hbx
                  go_wp2_with fail
                  clear hwx
                  go_loopw [14, 15] (fun u2 i2 w7 => ∃ (k2 : Nat) (done2 : Nm), i2 = .int .i64 k2 ∧ k2 ≤ n2 ∧ Hid (OwnG 9 strV w7 wx.heap.size u2 done2 ∧ done2 = (pk.take k2).map Lib.itoa) ∧ Hid (Below wx.heap.size wx w7)) (fun _ i2 _ => n2 - (intOf i2).toNat)
                  case atStart => exact ⟨0, [], rfl, Nat.zero_le _, Lib.hid ⟨OwnG.nil _ _, rfl⟩, Lib.hid (Below.refl _ _)⟩
                  case round =>
                    rename World => w7
                    obtain ⟨k2, done2, rfl, hk2, HO2, HB2⟩ := hrel
                    obtain ⟨hown2, hdone2⟩ := HO2.out
                    obtain ⟨au2, cu2, rfl⟩ := hown2.shape
                    have hb7 := HB2.out
                    have x3 : w7.cell? ⟨X, 3, none⟩ = some (.slice q2 n2 d2) := cell_below hb7 hS0.2.2.2.1
                    have hw7 : Below w.heap.size w w7 := hbwx.trans (hb7.mono hbwx.size)
                    have hd2 : done2.length = k2 := by rw [hdone2, List.length_map, List.length_take]; rw [List.length_map] at hn2; omega
                    generalize hdn2 : done2.length = dl2 at *
                    by_cases hlt2 : k2 < n2
                    · have hk2l : k2 < (pk.map fun p => Value.int .i64 p).length := by rw [hn2]; exact hlt2
                      have hk2p : k2 < pk.length := by rw [List.length_map] at hk2l; exact hk2l
                      obtain ⟨gp, op, rfl, hgp, hcp⟩ := (hpk w7 hw7).cellP (Below.refl _ _) k2 hk2l
                      rw [List.getElem_map] at hcp
                      have hnm := rep_num pk[k2] (HFW.out.2.2 _ (List.getElem_mem hk2p)).1 (HFW.out.2.2 _ (List.getElem_mem hk2p)).2 w7
                      have hsn := take_map_snocP Lib.itoa pk k2 hk2p
                      obtain ⟨y, hy⟩ : ∃ y, Lib.itoa pk[k2] = y := ⟨_, rfl⟩
                      rw [hy] at hnm hsn
                      obtain ⟨sx, hy0, _, _⟩ := str_of y
                      rw [str_nameP hy0] at hnm
                      generalize pk[k2] = pv at *
                      have HCx := Lib.hid (show [Value.string sx] = [y].map strV by rw [← hy0]; simp [strV])
                      have HR2 := Lib.hid (show done2 ++ [y] = (pk.take (k2 + 1)).map Lib.itoa by rw [hdone2]; exact hsn)
                      have hn2b : n2 ≤ 1000 := by have h := hn2; rw [List.length_map] at h; have := HFW.out.2.1; omega
                      have HDL2 := Lib.hid (show done2.length ≤ 1000 by omega)
                      have HO2x := Lib.hid hown2
                      have hltz2 : (k2 : Int) < (n2 : Int) := by omega
                      have hk2z : (0 : Int) ≤ (k2 : Int) := by omega
                      clear hsn hy0 hy hown2 hdone2 hgp hk2l hk2p hdn2 hd2 HO2
                      go_wp2_with (first | (go_at_call 15; refine hnm.mono ?_; rintro e w2 ⟨rfl, hb2⟩) | (at_builtin; refine wpl_append_g w2 rfl (.tmp 146) (.tmp 153) elemStr rfl strV_one wx.heap.size (.slice au2 dl2 cu2) done2 rfl (OwnG.below HO2x.out hb2) [.string sx] [y] HCx.out 1 1 rfl rfl (Nat.le_trans HB2.out.size hb2.size) (by have := HDL2.out; unfold maxLen; simp; omega) (by have := HDL2.out; simp; omega) ?_; intro v3 w3 hown3 hg3; have hB3 : Below wx.heap.size wx w3 := (HB2.out.trans (hb2.mono HB2.out.size)).grown hg3 (Nat.le_trans HB2.out.size hb2.size) HO2x.out.base_le))
                      go_roundw
                      case rel => exact ⟨k2 + 1, done2 ++ [y], by go_num, by omega, Lib.hid ⟨hown3, HR2.out⟩, Lib.hid hB3⟩
                      case measure => simp [intOf]; omega
                    · obtain rfl : n2 = k2 := by omega
                      have hfull2 : done2 = pk.map Lib.itoa := by rw [hdone2, List.take_of_length_le (by rw [List.length_map] at hn2; omega)]
                      have hJ := ref_Joined (.slice au2 dl2 cu2) done2 [44] w7 (hdn2 ▸ hown2.nmAt.1) (by have := HFW.out.2.1; rw [List.length_map] at hn2; omega) (by
                        have := sepBy_len [44] 20 done2 (fun x hx => by
                          rw [hfull2] at hx
                          obtain ⟨c, hc, rfl⟩ := List.mem_map.1 hx
                          have h9 := HFW.out.2.2 c hc
                          exact itoa_len c (by omega) (by omega))
                        have h1 := HFW.out.2.1
                        rw [List.length_map] at hn2
                        simp only [List.length_singleton] at this
                        omega)
                      rw [hfull2] at hJ
                      have HOWX := Lib.hid hownx; have HS0 := Lib.hid hS0
                      have hpk0 : pk = [] ↔ dl2 = 0 := by rw [List.length_map] at hn2; rw [← List.length_eq_zero_iff]; omega
                      clear hS0 hownx hown2 hdone2 hfull2 hlt2 HO2 hn2 hdn2
                      by_cases hz2 : dl2 = 0
                      · have hcx := hpw.1 (hpk0.2 hz2)
                        subst hz2
                        subst hcx
                        clear hpk0 hpw hd2
                        go_wp2_with fail
                        refine hJ.mono ?_
                        rintro e w8 ⟨rfl, hb8⟩
                        have hb78 := hb7.trans (hb8.mono hb7.size)
                        have hS1 := KS.out _ _ HS0.out hb78
                        have hown9 := (OwnG.below HOWX.out hb78).drew
                        clear hb8 hb78 hJ x3 hw7
                        go_wp2_with fail
                        go_region_held3 (fun W => W.cell? ⟨X, 0, none⟩ = some (.int .i64 kd) ∧ W.cell? ⟨X, 1, none⟩ = some (.slice q1 n1 d1) ∧ W.cell? ⟨X, 2, none⟩ = some (.int .i64 ty) ∧ W.cell? ⟨X, 3, none⟩ = some (.slice q2 n2 d2) ∧ W.cell? ⟨T, kd.toNat, none⟩ = some (.string cw) ∧ LinT W0 T (wS.map strV).toArray W)
                          (first | with_reducible assumption | (with_reducible exact KD.out _ (by with_reducible assumption)) | (with_reducible exact KA.out _ _ (by with_reducible assumption)))
                          (first | ((with_reducible refine (HN.out _ (by with_reducible assumption)).mono ?_); rintro e w2 ⟨rfl, hb2⟩; have hS2 := KS.out _ _ (by with_reducible assumption) hb2; have ho2 := OwnG.below hown9 hb2) | ((with_reducible refine (HT.out _ (by with_reducible assumption)).mono ?_); rintro e w2 ⟨rfl, hb2⟩; have hS2 := KS.out _ _ (by with_reducible assumption) hb2; have ho2 := OwnG.below ho2 hb2) | ((have hq := ho2; clear hq; refine step_append_l w2 (by rfl) _ _ (by rfl) W0.heap.size au dl cu done res (by rfl) ho2 (by rfl) (hS2.2.2.2.2.2.below.size) HDN.out ?_); intro g9 n9 c9 w3 ho3 hg3 hq3; have hS3 := KG.out _ _ (by assumption) hg3))
                        all_goals
                          rename_i hSe
                          have HB3 := Lib.hid hSe.2.2.2.2.2
                          have HO3 := Lib.hid ho3
                          have HNT := Lib.hid (show ∀ b, (Value.slice (some ⟨g9, 0, none⟩) n9 c9).ownBlock = some b → b ≠ T from fun b e => by
                            have e2 : g9 = b := by simpa [Value.ownBlock] using e
                            subst e2
                            rcases hq3 with q | q
                            · exact (HNEX.out _ q).2.2
                            · have := HTX.out; have := hS2.2.2.2.2.2.below.size; have h9 := kblock_lt hS2.2.2.2.2.2.t; omega)
                          clear hSe hS3 hS2 ho3 ho2 hg3 hq3 hb2
                          go_wp2_with fail
                          go_roundw
                          case rel => exact ⟨k + 1, done ++ [res], by go_num, by omega, Lib.hid ⟨HO3.out, HD2.out⟩, Lib.hid ⟨HB3.out, HNT.out⟩⟩
                          case measure => simp [intOf]; omega
                      · have hcx := hpw.2 (fun h => hz2 (hpk0.1 h))
                        have hz2' : ((dl2 : Int) == 0) = false := by simp; omega
                        have hz2'' : ¬ ((dl2 : Int) = 0) := by omega
                        rw [← hcx] at hJ
                        clear hpk0 hpw hd2 hcx
                        go_wp2_with fail
                        refine hJ.mono ?_
                        rintro e w8 ⟨rfl, hb8⟩
                        have hb78 := hb7.trans (hb8.mono hb7.size)
                        have hS1 := KS.out _ _ HS0.out hb78
                        have hown9 := (OwnG.below HOWX.out hb78).drew
                        clear hb8 hb78 hJ x3 hw7
                        go_wp2_with fail
                        go_region_held3 (fun W => W.cell? ⟨X, 0, none⟩ = some (.int .i64 kd) ∧ W.cell? ⟨X, 1, none⟩ = some (.slice q1 n1 d1) ∧ W.cell? ⟨X, 2, none⟩ = some (.int .i64 ty) ∧ W.cell? ⟨X, 3, none⟩ = some (.slice q2 n2 d2) ∧ W.cell? ⟨T, kd.toNat, none⟩ = some (.string cw) ∧ LinT W0 T (wS.map strV).toArray W)
                          (first | with_reducible assumption | (with_reducible exact KD.out _ (by with_reducible assumption)) | (with_reducible exact KA.out _ _ (by with_reducible assumption)))
                          (first | ((with_reducible refine (HN.out _ (by with_reducible assumption)).mono ?_); rintro e w2 ⟨rfl, hb2⟩; have hS2 := KS.out _ _ (by with_reducible assumption) hb2; have ho2 := OwnG.below hown9 hb2) | ((with_reducible refine (HT.out _ (by with_reducible assumption)).mono ?_); rintro e w2 ⟨rfl, hb2⟩; have hS2 := KS.out _ _ (by with_reducible assumption) hb2; have ho2 := OwnG.below ho2 hb2) | ((have hq := ho2; clear hq; refine step_append_l w2 (by rfl) _ _ (by rfl) W0.heap.size au dl cu done res (by rfl) ho2 (by rfl) (hS2.2.2.2.2.2.below.size) HDN.out ?_); intro g9 n9 c9 w3 ho3 hg3 hq3; have hS3 := KG.out _ _ (by assumption) hg3))
                        all_goals
                          rename_i hSe
                          have HB3 := Lib.hid hSe.2.2.2.2.2
                          have HO3 := Lib.hid ho3
                          have HNT := Lib.hid (show ∀ b, (Value.slice (some ⟨g9, 0, none⟩) n9 c9).ownBlock = some b → b ≠ T from fun b e => by
                            have e2 : g9 = b := by simpa [Value.ownBlock] using e
                            subst e2
                            rcases hq3 with q | q
                            · exact (HNEX.out _ q).2.2
                            · have := HTX.out; have := hS2.2.2.2.2.2.below.size; have h9 := kblock_lt hS2.2.2.2.2.2.t; omega)
                          clear hSe hS3 hS2 ho3 ho2 hg3 hq3 hb2
                          go_wp2_with fail
                          go_roundw
                          case rel => exact ⟨k + 1, done ++ [res], by go_num, by omega, Lib.hid ⟨HO3.out, HD2.out⟩, Lib.hid ⟨HB3.out, HNT.out⟩⟩
                          case measure => simp [intOf]; omega
                · obtain rfl : nS = k := by omega
                  have hfull : done = r.errs.map eRow ++ r.flaws.map fRow ++ r.edges.map dRow ++ r.seen.map sRow := by rw [hdone, List.take_of_length_le (by rw [HNS.out]; exact Nat.le_refl _)]
                  have HDN := Lib.hid (show done.length ≤ 5000 by omega)
                  have HOA := Lib.hid hown; have HDA := Lib.hid hfull; have HLB := Lib.hid (OwnG.ltL hown)
                  clear hown hdone hfull hlt hk HO hdl
                  have hb9 := hB0
                  have r4 := kcell rb 4 _ rfl
                  have HOF := Lib.hid HOA.out
                  have HBWF := Lib.hid hBw
                  have HBZF := Lib.hid hB0.size
                  clear hB0 HB hBw rb hdn hb9 HLB
                  by_cases he : er0 = 0
                  · have hl : linesM r = done := by
                      have := HDA.out; unfold linesM; rw [← this, her, he]; simp [lastW]
                    subst he
                    have HL := Lib.hid hl
                    clear hl
                    go_wp2_with fail
                    go_ret
                    exact ⟨_, rfl, by rw [HL.out]; exact StrsAt.of_own HOF.out, HBWF.out⟩
                  · have he' : (er0 != 0) = true := by simp [he]
                    have hl : linesM r = done ++ [stopW er0] := by
                      have := HDA.out; unfold linesM; rw [← this, her]; unfold lastW; rw [if_neg he]
                    have hke := HF.out.ok.err
                    rw [her] at hke
                    have hwd := rep_Err er0 hke.1 hke.2 wr
                    have A0 := add_rep [115, 116, 111, 112, 112, 101, 100, 32] (wR.getD er0.toNat []) (stopW er0) rfl (by unfold stopW; have := wR_len er0.toNat; simp only [List.length_append, List.length_cons, List.length_nil]; omega)
                    have HL := Lib.hid hl
                    clear hl
                    generalize stopW er0 = res at *
                    generalize wR.getD er0.toNat [] = x1 at *
                    generalize (⟨x1.toArray⟩ : ByteArray) = cx1 at *
                    have B0 : ∀ W, (Op.stringOp .add (⟨#[115, 116, 111, 112, 112, 101, 100, 32]⟩ : ByteArray) cx1).run Tryd.prog W = .ok (.string ⟨res.toArray⟩) W := A0
                    clear A0 hke
                    go_wp2_with fail
                    refine hwd.mono ?_
                    rintro e w2 ⟨rfl, hb2⟩
                    have HB2 := Lib.hid hb2
                    clear hwd hb2
                    go_wp2_with (at_builtin; refine wpl_append_g w2 rfl (.tmp 185) (.tmp 190) elemStr rfl strV_one W0.heap.size (.slice au dl cu) done rfl (OwnG.below HOF.out HB2.out) [.string ⟨res.toArray⟩] [res] rfl 1 1 rfl rfl (Nat.le_trans HBZF.out HB2.out.size) (by have := HDN.out; unfold maxLen; simp; omega) (by have := HDN.out; simp; omega) ?_; intro v3 w3 hown3 hg3; have HO3 := Lib.hid hown3; have HB3 : Hid (Below w.heap.size w w3) := Lib.hid ((HBWF.out.trans (HB2.out.mono HBWF.out.size)).grown hg3 (Nat.le_trans HBWF.out.size HB2.out.size) (fun b e => Nat.le_trans HB0.out.size (HOF.out.base_le b e))); clear hown3 hg3)
                    go_ret
                    exact ⟨_, rfl, by rw [HL.out]; exact StrsAt.of_own HO3.out, HB3.out⟩
end
end Go.Proofs.YtbnkecmhmcligaaDoor
